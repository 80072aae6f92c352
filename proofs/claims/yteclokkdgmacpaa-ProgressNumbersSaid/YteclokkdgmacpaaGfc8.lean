/-
  Made by wip/tool/dc.py out of the print of the program: contracts.
-/
import Derived.Test.YteclokkdgmacpaaGrp
import Derived.Test.YteclokkdgmacpaaSh7
import Derived.Test.YteclokkdgmacpaaAvd
import Derived.Test.YteclokkdgmacpaaGfc2
import Derived.Test.YteclokkdgmacpaaGfc4
import Derived.Test.YteclokkdgmacpaaGfc5
import Derived.Test.YteclokkdgmacpaaGfc6
import Derived.Test.YteclokkdgmacpaaGfc7
namespace Go.Proofs.Yteclokkdgmacpaa
open Go.RowKit

set_option linter.unusedSimpArgs false
set_option linter.unusedVariables false
set_option linter.constructorNameAsVariable false

set_option maxRecDepth 100000
set_option maxHeartbeats 2000000

theorem hc_progress_Holds (g : Int × (List (Int × Int × Int × Bool))) (claim : Int) (thread : Int) {r : Bool × Int} (h : progress_Holds g claim thread = some r) : HC Try.prog 29 [] [.agg [.int .i64 g.1, .sl (.pair (.int .i64) (.pair (.int .i64) (.pair (.int .i64) .bool))) g.2], .int .i64 claim, .int .i64 thread] [] (.tup [.bool r.1, .int .i64 r.2]) := by
 unfold progress_Holds at h
 refine zH Try.func29 [.tmp 6, .tmp 7] 28 ?_
 refine zo ?_
 refine zB [(1, .int .i64 claim), (2, .int .i64 thread), (3, .bp 3 0)] [(3, .box 24 [.int .i64 g.1, .sl (.pair (.int .i64) (.pair (.int .i64) (.pair (.int .i64) .bool))) g.2])] ?_
 refine zo ?_
 refine zS 3 [(13, .agg [.int .i64 g.1, .sl (.pair (.int .i64) (.pair (.int .i64) (.pair (.int .i64) .bool))) g.2]), (14, .int .i64 claim), (15, .int .i64 thread)] [] ?_
 obtain ⟨v0, hv1, h⟩ := Option.bind_eq_some_iff.1 h
 rcases v0 with v0_2 | v0_3 | v0_4 | v0_5
 ·try simp only at h
  refine zC [] [] (hc_progress_statementOf_a0 g claim thread hv1) [(16, .tup [.agg [.int .i64 0, .cv (.slice none 0 0), .cv (.nilFunc), .cv (.nilFunc)], .int .i64 v0_2])] [] ?_
  refine zS 5 [(8, .bp 8 0), (18, .int .i64 v0_2)] [(8, .box 85 [.int .i64 0, .cv (.slice none 0 0), .cv (.nilFunc), .cv (.nilFunc)])] ?_
  refine zB [(8, .bp 8 0), (9, .int .i64 v0_2)] [(8, .box 85 [.int .i64 0, .cv (.slice none 0 0), .cv (.nilFunc), .cv (.nilFunc)])] ?_
  refine AW.seq ?_
  refine zo ?_
  refine zB [(8, .bp 8 0), (9, .int .i64 v0_2), (20, .bool (!(decide (v0_2 = 0))))] [(8, .box 85 [.int .i64 0, .cv (.slice none 0 0), .cv (.nilFunc), .cv (.nilFunc)])] ?_
  refine zQ h (fun hb2 h => ?_) (fun hb2 h => ?_)
  ·refine zo ?_
   refine zB [(6, .bool false), (7, .int .i64 v0_2)] [] ?_
   refine zr ?_
   obtain rfl := Option.some.inj h
   exact zR [] [] []
  ·refine zk ?_
   refine zo ?_
   cases h
 ·try simp only at h
  refine zC [] [] (hc_progress_statementOf_a1 g claim thread hv1) [(16, .tup [.agg [.int .i64 v0_3.1, .sl (.pair (.int .i64) (.pair (.int .i64) (.pair (.int .i64) .bool))) v0_3.2, .fn (.func 94) [] [], .fn (.func 94) [] []], .int .i64 0])] [] ?_
  refine zS 5 [(8, .bp 8 0), (18, .int .i64 0)] [(8, .box 85 [.int .i64 v0_3.1, .sl (.pair (.int .i64) (.pair (.int .i64) (.pair (.int .i64) .bool))) v0_3.2, .fn (.func 94) [] [], .fn (.func 94) [] []])] ?_
  refine zB [(8, .bp 8 0), (9, .int .i64 0)] [(8, .box 85 [.int .i64 v0_3.1, .sl (.pair (.int .i64) (.pair (.int .i64) (.pair (.int .i64) .bool))) v0_3.2, .fn (.func 94) [] [], .fn (.func 94) [] []])] ?_
  refine AW.seq ?_
  refine zo ?_
  refine zB [(8, .bp 8 0), (9, .int .i64 0), (20, .bool false)] [(8, .box 85 [.int .i64 v0_3.1, .sl (.pair (.int .i64) (.pair (.int .i64) (.pair (.int .i64) .bool))) v0_3.2, .fn (.func 94) [] [], .fn (.func 94) [] []])] ?_
  refine AW.cond (b := false) rfl (fun hb3 => by cases hb3) (fun _ => ?_)
  refine zk ?_
  refine zo ?_
  refine zS 1 [(23, .agg [.int .i64 v0_3.1, .sl (.pair (.int .i64) (.pair (.int .i64) (.pair (.int .i64) .bool))) v0_3.2, .fn (.func 94) [] [], .fn (.func 94) [] []])] [] ?_
  obtain ⟨v0_6, hv4, h⟩ := Option.bind_eq_some_iff.1 h
  refine zC [] [] (hc_progress_statement_ranks v0_3.1 v0_3.2 hv4) [(24, .tup [.own 34000, .bool v0_6.2])] [(34000, .arr 3 (.int .i64) v0_6.1)] ?_
  refine zB [(11, .bool v0_6.2)] [] ?_
  refine zo ?_
  refine zB [(6, .bool v0_6.2), (7, .int .i64 0)] [] ?_
  refine AW.ret ?_
  obtain rfl := Option.some.inj h
  exact zR [] [] []
 ·try simp only at h
  refine zC [] [] (hc_progress_statementOf_a2 g claim thread hv1) [(16, .tup [.agg [.int .i64 v0_4.1, .sl (.pair (.int .i64) (.pair (.int .i64) (.pair (.int .i64) .bool))) v0_4.2, .fn (.func 96) [] [.bp 26000 0], .fn (.func 95) [] [.bp 26000 0]], .int .i64 0])] [(26000, .box 3 [.int .i64 thread])] ?_
  refine AO.weaken (s' := ⟨fr [(16, .tup [.agg [.int .i64 v0_4.1, .sl (.pair (.int .i64) (.pair (.int .i64) (.pair (.int .i64) .bool))) v0_4.2, .fn (.func 96) [] [.dp (.int .i64) thread 0], .fn (.func 95) [] [.dp (.int .i64) thread 0]], .int .i64 0])], hpGet [], gt⟩) (Wk.boxes [26000] rfl rfl (by (simp only [go_sem]) <;> (with_reducible and_intros) <;> first | assumption | rfl | omega | (unfold maxLen; omega)) (by (simp only [go_sem]) <;> (with_reducible and_intros) <;> first | assumption | rfl | omega | (unfold maxLen; omega))) ?_
  refine zS 5 [(8, .bp 8 0), (18, .int .i64 0)] [(8, .box 85 [.int .i64 v0_4.1, .sl (.pair (.int .i64) (.pair (.int .i64) (.pair (.int .i64) .bool))) v0_4.2, .fn (.func 96) [] [.dp (.int .i64) thread 0], .fn (.func 95) [] [.dp (.int .i64) thread 0]])] ?_
  refine zB [(8, .bp 8 0), (9, .int .i64 0)] [(8, .box 85 [.int .i64 v0_4.1, .sl (.pair (.int .i64) (.pair (.int .i64) (.pair (.int .i64) .bool))) v0_4.2, .fn (.func 96) [] [.dp (.int .i64) thread 0], .fn (.func 95) [] [.dp (.int .i64) thread 0]])] ?_
  refine AW.seq ?_
  refine zo ?_
  refine zB [(8, .bp 8 0), (9, .int .i64 0), (20, .bool false)] [(8, .box 85 [.int .i64 v0_4.1, .sl (.pair (.int .i64) (.pair (.int .i64) (.pair (.int .i64) .bool))) v0_4.2, .fn (.func 96) [] [.dp (.int .i64) thread 0], .fn (.func 95) [] [.dp (.int .i64) thread 0]])] ?_
  refine AW.cond (b := false) rfl (fun hb5 => by cases hb5) (fun _ => ?_)
  refine zk ?_
  refine zo ?_
  refine zS 1 [(23, .agg [.int .i64 v0_4.1, .sl (.pair (.int .i64) (.pair (.int .i64) (.pair (.int .i64) .bool))) v0_4.2, .fn (.func 96) [] [.dp (.int .i64) thread 0], .fn (.func 95) [] [.dp (.int .i64) thread 0]])] [] ?_
  obtain ⟨v0_7, hv6, h⟩ := Option.bind_eq_some_iff.1 h
  refine zC [] [] (hc_progress_statement_ranks_2 v0_4.1 v0_4.2 thread thread hv6) [(24, .tup [.own 34000, .bool v0_7.2])] [(34000, .arr 3 (.int .i64) v0_7.1)] ?_
  refine zB [(11, .bool v0_7.2)] [] ?_
  refine zo ?_
  refine zB [(6, .bool v0_7.2), (7, .int .i64 0)] [] ?_
  refine AW.ret ?_
  obtain rfl := Option.some.inj h
  exact zR [] [] []
 ·try simp only at h
  refine zC [] [] (hc_progress_statementOf_a3 g claim thread hv1) [(16, .tup [.agg [.int .i64 v0_5.1, .sl (.pair (.int .i64) (.pair (.int .i64) (.pair (.int .i64) .bool))) v0_5.2, .fn (.func 95) [] [.bp 26000 0], .fn (.func 95) [] [.bp 26000 0]], .int .i64 0])] [(26000, .box 3 [.int .i64 thread])] ?_
  refine AO.weaken (s' := ⟨fr [(16, .tup [.agg [.int .i64 v0_5.1, .sl (.pair (.int .i64) (.pair (.int .i64) (.pair (.int .i64) .bool))) v0_5.2, .fn (.func 95) [] [.dp (.int .i64) thread 0], .fn (.func 95) [] [.dp (.int .i64) thread 0]], .int .i64 0])], hpGet [], gt⟩) (Wk.boxes [26000] rfl rfl (by (simp only [go_sem]) <;> (with_reducible and_intros) <;> first | assumption | rfl | omega | (unfold maxLen; omega)) (by (simp only [go_sem]) <;> (with_reducible and_intros) <;> first | assumption | rfl | omega | (unfold maxLen; omega))) ?_
  refine zS 5 [(8, .bp 8 0), (18, .int .i64 0)] [(8, .box 85 [.int .i64 v0_5.1, .sl (.pair (.int .i64) (.pair (.int .i64) (.pair (.int .i64) .bool))) v0_5.2, .fn (.func 95) [] [.dp (.int .i64) thread 0], .fn (.func 95) [] [.dp (.int .i64) thread 0]])] ?_
  refine zB [(8, .bp 8 0), (9, .int .i64 0)] [(8, .box 85 [.int .i64 v0_5.1, .sl (.pair (.int .i64) (.pair (.int .i64) (.pair (.int .i64) .bool))) v0_5.2, .fn (.func 95) [] [.dp (.int .i64) thread 0], .fn (.func 95) [] [.dp (.int .i64) thread 0]])] ?_
  refine AW.seq ?_
  refine zo ?_
  refine zB [(8, .bp 8 0), (9, .int .i64 0), (20, .bool false)] [(8, .box 85 [.int .i64 v0_5.1, .sl (.pair (.int .i64) (.pair (.int .i64) (.pair (.int .i64) .bool))) v0_5.2, .fn (.func 95) [] [.dp (.int .i64) thread 0], .fn (.func 95) [] [.dp (.int .i64) thread 0]])] ?_
  refine AW.cond (b := false) rfl (fun hb7 => by cases hb7) (fun _ => ?_)
  refine zk ?_
  refine zo ?_
  refine zS 1 [(23, .agg [.int .i64 v0_5.1, .sl (.pair (.int .i64) (.pair (.int .i64) (.pair (.int .i64) .bool))) v0_5.2, .fn (.func 95) [] [.dp (.int .i64) thread 0], .fn (.func 95) [] [.dp (.int .i64) thread 0]])] [] ?_
  obtain ⟨v0_8, hv8, h⟩ := Option.bind_eq_some_iff.1 h
  refine zC [] [] (hc_progress_statement_ranks_3 v0_5.1 v0_5.2 thread thread hv8) [(24, .tup [.own 34000, .bool v0_8.2])] [(34000, .arr 3 (.int .i64) v0_8.1)] ?_
  refine zB [(11, .bool v0_8.2)] [] ?_
  refine zo ?_
  refine zB [(6, .bool v0_8.2), (7, .int .i64 0)] [] ?_
  refine AW.ret ?_
  obtain rfl := Option.some.inj h
  exact zR [] [] []

theorem hc_linealref07_asked (g : Int × (List (Int × Int × Int × Bool))) (claim : Int) (thread : Int) {r : Int} (h : linealref07_asked g claim thread = some r) : HC Try.prog 73 [] [.agg [.int .i64 g.1, .sl (.pair (.int .i64) (.pair (.int .i64) (.pair (.int .i64) .bool))) g.2], .int .i64 claim, .int .i64 thread] [] (.int .i64 r) := by
 unfold linealref07_asked at h
 refine zH Try.func73 [.tmp 6] 29 ?_
 refine zo ?_
 refine zB [(1, .int .i64 claim), (2, .int .i64 thread), (3, .bp 3 0)] [(3, .box 24 [.int .i64 g.1, .sl (.pair (.int .i64) (.pair (.int .i64) (.pair (.int .i64) .bool))) g.2])] ?_
 refine AW.seq ?_
 refine zo ?_
 refine zS 1 [(1, .int .i64 claim), (2, .int .i64 thread), (7, .agg [.int .i64 g.1, .sl (.pair (.int .i64) (.pair (.int .i64) (.pair (.int .i64) .bool))) g.2])] [] ?_
 obtain ⟨v0, hv1, h⟩ := Option.bind_eq_some_iff.1 h
 refine zC [] [] (hc_linealref07_Valid g hv1) [(1, .int .i64 claim), (2, .int .i64 thread), (8, .bool v0)] [] ?_
 refine zB [(1, .int .i64 claim), (2, .int .i64 thread), (9, .bool (!v0))] [] ?_
 refine zQ h (fun hb2 h => ?_) (fun hb2 h => ?_)
 ·refine zo ?_
  refine zB [(6, .int .i64 70)] [] ?_
  refine zr ?_
  obtain rfl := Option.some.inj h
  exact zR [] [] []
 ·refine zk ?_
  refine AW.seq ?_
  refine zo ?_
  refine zS 3 [(1, .int .i64 claim), (2, .int .i64 thread), (12, .bool (decide (claim < 0)))] [] ?_
  rcases zI h with ⟨hb3, h⟩ | ⟨hb3, h⟩
  ·refine zS 5 [(1, .int .i64 claim), (2, .int .i64 thread), (16, .bool true), (17, .cv (undef))] [] ?_
   refine zS 5 [(2, .int .i64 thread), (21, .bool true), (22, .cv (undef))] [] ?_
   refine zS 4 [(21, .bool true), (24, .cv (undef)), (26, .cv (undef))] [] ?_
   refine zB [(28, .bool true)] [] ?_
   refine AW.cond (b := true) rfl (fun _ => ?_) (fun hb4 => by cases hb4)
   refine zo ?_
   refine zB [(6, .int .i64 2)] [] ?_
   refine zr ?_
   obtain rfl := Option.some.inj h
   exact zR [] [] []
  ·refine zS 4 [(1, .int .i64 claim), (2, .int .i64 thread), (16, .bool (decide (2 < claim)))] [] ?_
   rcases zI h with ⟨hb5, h⟩ | ⟨hb5, h⟩
   ·refine zS 5 [(1, .int .i64 claim), (2, .int .i64 thread), (21, .bool true)] [] ?_
    refine zS 4 [(21, .bool true), (24, .cv (undef)), (25, .cv (undef))] [] ?_
    refine zB [(28, .bool true)] [] ?_
    refine AW.cond (b := true) rfl (fun _ => ?_) (fun hb6 => by cases hb6)
    refine zo ?_
    refine zB [(6, .int .i64 2)] [] ?_
    refine zr ?_
    obtain rfl := Option.some.inj h
    exact zR [] [] []
   ·refine zS 1 [(1, .int .i64 claim), (2, .int .i64 thread), (16, .bool false), (17, .int .i64 thread)] [] ?_
    obtain ⟨v0_2, hv7, h⟩ := Option.bind_eq_some_iff.1 h
    refine zG [] [] (hc_linealref07_IsThread thread hv7) [(1, .int .i64 claim), (2, .int .i64 thread), (16, .bool false), (18, .bool v0_2)] [] ?_
    refine zS 3 [(1, .int .i64 claim), (2, .int .i64 thread), (21, .bool (!v0_2))] [] ?_
    rcases zI h with ⟨hb8, h⟩ | ⟨hb8, h⟩
    ·refine zS 4 [(21, .bool true), (24, .cv (undef)), (25, .cv (undef))] [] ?_
     refine zB [(28, .bool true)] [] ?_
     refine AW.cond (b := true) rfl (fun _ => ?_) (fun hb9 => by cases hb9)
     refine zo ?_
     refine zB [(6, .int .i64 2)] [] ?_
     refine zr ?_
     obtain rfl := Option.some.inj h
     exact zR [] [] []
    ·refine zS 3 [(2, .int .i64 thread), (21, .bool false), (24, .bool (decide (claim = 0)))] [] ?_
     rcases zI h with ⟨hb10, h⟩ | ⟨hb10, h⟩
     ·refine zB [(28, .bool (!(decide (thread = 0))))] [] ?_
      refine zQ h (fun hb11 h => ?_) (fun hb11 h => ?_)
      ·refine zo ?_
       refine zB [(6, .int .i64 2)] [] ?_
       refine zr ?_
       obtain rfl := Option.some.inj h
       exact zR [] [] []
      ·refine zk ?_
       refine zo ?_
       refine zB [(6, .int .i64 0)] [] ?_
       refine AW.ret ?_
       obtain rfl := Option.some.inj h
       exact zR [] [] []
     ·refine zB [(28, .bool false)] [] ?_
      refine AW.cond (b := false) rfl (fun hb12 => by cases hb12) (fun _ => ?_)
      refine zk ?_
      refine zo ?_
      refine zB [(6, .int .i64 0)] [] ?_
      refine AW.ret ?_
      obtain rfl := Option.some.inj h
      exact zR [] [] []

theorem hc_linealref07_falls (m : Int × Int × Int × Bool) (claim : Int) (thread : Int) {r : Int × Bool} (h : linealref07_falls m claim thread = some r) : HC Try.prog 77 [] [.agg [.int .i64 m.1, .int .i64 m.2.1, .int .i64 m.2.2.1, .bool m.2.2.2], .int .i64 claim, .int .i64 thread] [] (.tup [.int .i64 r.1, .bool r.2]) := by
 unfold linealref07_falls at h
 refine zH Try.func77 [.tmp 6, .tmp 7] 33 ?_
 refine zo ?_
 refine zB [(1, .int .i64 claim), (2, .int .i64 thread), (3, .bp 3 0)] [(3, .box 61 [.int .i64 m.1, .int .i64 m.2.1, .int .i64 m.2.2.1, .bool m.2.2.2])] ?_
 refine zo ?_
 refine zB [(1, .int .i64 claim), (3, .bp 3 0), (8, .bool (decide (m.2.1 = thread)))] [(3, .box 61 [.int .i64 m.1, .int .i64 m.2.1, .int .i64 m.2.2.1, .bool m.2.2.2])] ?_
 refine AW.seq ?_
 refine AW.block ?_
 refine zo ?_
 refine zB [(1, .int .i64 claim), (3, .bp 3 0), (8, .bool (decide (m.2.1 = thread))), (13, .bool (decide (claim = 0)))] [(3, .box 61 [.int .i64 m.1, .int .i64 m.2.1, .int .i64 m.2.2.1, .bool m.2.2.2])] ?_
 refine zQ h (fun hb1 h => ?_) (fun hb1 h => ?_)
 ·refine AW.seq ?_
  refine AW.draw tab_ok mixed_ok [] [] (by decide) (by kernel_rfl) ?_
  as_aux_lemma =>
   refine adops_cut 5 (fun K' hK2 => ?_)
   try dsimp only [List.drop_succ_cons, List.drop_zero, List.take_succ_cons, List.take_zero]
   simp only [go_sem, hb1]
   repeat with_reducible refine zN ?_
   refine hK2 _ ?_
   refine adops_nil ?_
   refine athen_n ?_
   refine zV [(6, .int .i64 1), (7, .bool (!m.2.2.2))] [] gt ?_
   as_aux_lemma =>
    refine AW.ret ?_
    refine ablock_r ?_
    refine athen_r ?_
    obtain rfl := Option.some.inj h
    exact zR [] [] []
 ·refine zo ?_
  refine zB [(3, .bp 3 0), (8, .bool (decide (m.2.1 = thread))), (19, .bool (decide (claim = 2)))] [(3, .box 61 [.int .i64 m.1, .int .i64 m.2.1, .int .i64 m.2.2.1, .bool m.2.2.2])] ?_
  refine zQ h (fun hb3 h => ?_) (fun hb3 h => ?_)
  ·refine AW.seq ?_
   refine AW.draw tab_ok mixed_ok [] [] (by decide) (by kernel_rfl) ?_
   as_aux_lemma =>
    refine adops_cut 2 (fun K' hK4 => ?_)
    try dsimp only [List.drop_succ_cons, List.drop_zero, List.take_succ_cons, List.take_zero]
    simp only [go_sem, hb1, hb3]
    repeat with_reducible refine zN ?_
    refine hK4 _ ?_
    as_aux_lemma =>
     rcases zI h with ⟨hb5, h⟩ | ⟨hb5, h⟩
     ·simp only [hb5]
      as_aux_lemma =>
       refine adops_cut 6 (fun K' hK6 => ?_)
       try dsimp only [List.drop_succ_cons, List.drop_zero, List.take_succ_cons, List.take_zero]
       simp only [go_sem, hb1, hb3, hb5]
       repeat with_reducible refine zN ?_
       refine hK6 _ ?_
       refine adops_nil ?_
       refine athen_n ?_
       refine zV [(6, .int .i64 1), (7, .bool (!m.2.2.2))] [] gt ?_
       as_aux_lemma =>
        refine AW.ret ?_
        refine ablock_r ?_
        refine athen_r ?_
        obtain rfl := Option.some.inj h
        exact zR [] [] []
     ·simp only [hb5]
      as_aux_lemma =>
       refine adops_cut 6 (fun K' hK7 => ?_)
       try dsimp only [List.drop_succ_cons, List.drop_zero, List.take_succ_cons, List.take_zero]
       simp only [go_sem, hb1, hb3, hb5]
       repeat with_reducible refine zN ?_
       refine hK7 _ ?_
       refine adops_nil ?_
       refine athen_n ?_
       refine zV [(6, .int .i64 1), (7, .bool false)] [] gt ?_
       as_aux_lemma =>
        refine AW.ret ?_
        refine ablock_r ?_
        refine athen_r ?_
        obtain rfl := Option.some.inj h
        exact zR [] [] []
  ·refine zo ?_
   refine zB [(3, .bp 3 0), (28, .bool (decide (m.2.1 = thread)))] [(3, .box 61 [.int .i64 m.1, .int .i64 m.2.1, .int .i64 m.2.2.1, .bool m.2.2.2])] ?_
   refine zQ h (fun hb8 h => ?_) (fun hb8 h => ?_)
   ·refine AW.seq ?_
    refine AW.draw tab_ok mixed_ok [] [] (by decide) (by kernel_rfl) ?_
    as_aux_lemma =>
     refine adops_cut 5 (fun K' hK9 => ?_)
     try dsimp only [List.drop_succ_cons, List.drop_zero, List.take_succ_cons, List.take_zero]
     simp only [go_sem, hb1, hb3, hb8]
     repeat with_reducible refine zN ?_
     refine hK9 _ ?_
     refine adops_nil ?_
     refine athen_n ?_
     refine zV [(6, .int .i64 1), (7, .bool (!m.2.2.2))] [] gt ?_
     as_aux_lemma =>
      refine AW.ret ?_
      refine ablock_r ?_
      refine athen_r ?_
      obtain rfl := Option.some.inj h
      exact zR [] [] []
   ·refine zm ?_
    refine athen_n ?_
    refine zo ?_
    refine zB [(6, .int .i64 0), (7, .bool true)] [] ?_
    refine AW.ret ?_
    obtain rfl := Option.some.inj h
    exact zR [] [] []

theorem hc_linealref07_ranks (g : Int × (List (Int × Int × Int × Bool))) (claim : Int) (thread : Int) {r : (List Int) × Bool} (h : linealref07_ranks g claim thread = some r) : HC Try.prog 74 [] [.agg [.int .i64 g.1, .sl (.pair (.int .i64) (.pair (.int .i64) (.pair (.int .i64) .bool))) g.2], .int .i64 claim, .int .i64 thread] [(2000, .arr 3 (.int .i64) r.1)] (.tup [.own 2000, .bool r.2]) := by
 unfold linealref07_ranks at h
 refine zH Try.func74 [.tmp 6, .tmp 7] 77 ?_
 refine zo ?_
 refine zB [(1, .int .i64 claim), (2, .int .i64 thread), (3, .bp 3 0)] [(3, .box 24 [.int .i64 g.1, .sl (.pair (.int .i64) (.pair (.int .i64) (.pair (.int .i64) .bool))) g.2])] ?_
 refine zo ?_
 refine zS 1 [(1, .int .i64 claim), (2, .int .i64 thread), (3, .bp 3 0), (15, .agg [.int .i64 g.1, .sl (.pair (.int .i64) (.pair (.int .i64) (.pair (.int .i64) .bool))) g.2])] [(3, .box 24 [.int .i64 g.1, .sl (.pair (.int .i64) (.pair (.int .i64) (.pair (.int .i64) .bool))) g.2])] ?_
 obtain ⟨v0, hv1, h⟩ := Option.bind_eq_some_iff.1 h
 refine zC [] [] (hc_linealref07_reached g hv1) [(1, .int .i64 claim), (2, .int .i64 thread), (3, .bp 3 0), (16, .own 26000)] [(3, .box 24 [.int .i64 g.1, .sl (.pair (.int .i64) (.pair (.int .i64) (.pair (.int .i64) .bool))) g.2]), (26000, .arr 4 .bool v0)] ?_
 refine zB [(1, .int .i64 claim), (2, .int .i64 thread), (3, .bp 3 0), (8, .own 26000)] [(3, .box 24 [.int .i64 g.1, .sl (.pair (.int .i64) (.pair (.int .i64) (.pair (.int .i64) .bool))) g.2]), (26000, .arr 4 .bool v0)] ?_
 refine zo ?_
 obtain ⟨c2, h⟩ := ck_some.1 h
 obtain ⟨c3, h⟩ := ck_some.1 h
 refine zB [(1, .int .i64 claim), (2, .int .i64 thread), (3, .bp 3 0), (8, .own 26000), (9, .own 19)] [(3, .box 24 [.int .i64 g.1, .sl (.pair (.int .i64) (.pair (.int .i64) (.pair (.int .i64) .bool))) g.2]), (19, .arr 3 (.int .i64) (List.replicate g.1.toNat (0 : Int))), (26000, .arr 4 .bool v0)] ?_
 refine AW.have1 (fun _ : Unit => linealref07_ranks_k1 = some r) (fun _ => ⟨fr [], hpGet [], gt⟩) (fun _ h => ?_) (fun hk_linealref07_ranks_k1 => ?_)
 ·as_aux_lemma =>
   unfold linealref07_ranks_k1 at h
   refine zo ?_
   refine zB [(6, .cv (.slice none 0 0)), (7, .bool false)] [] ?_
   refine AW.ret ?_
   obtain rfl := Option.some.inj h
   exact zR [] [2000] []
 ·refine AW.seq ?_
  refine zo ?_
  obtain ⟨c4, h⟩ := ck_some.1 h
  refine zB [(1, .int .i64 claim), (2, .int .i64 thread), (3, .bp 3 0), (8, .own 26000), (9, .own 19), (22, .int .i64 (g.1 + 1)), (23, .int .i64 0)] [(3, .box 24 [.int .i64 g.1, .sl (.pair (.int .i64) (.pair (.int .i64) (.pair (.int .i64) .bool))) g.2]), (19, .arr 3 (.int .i64) (List.replicate g.1.toNat (0 : Int))), (26000, .arr 4 .bool v0)] ?_
  refine AW.block ?_
  obtain ⟨rv9, hw5, ho6⟩ := Option.bind_eq_some_iff.1 h
  refine AW.loopO (linealref07_ranks_b1 g claim thread v0) (fun st1 => ⟨fr [(1, .int .i64 claim), (2, .int .i64 thread), (3, .bp 3 0), (8, .own 26000), (9, .own 19), (22, .int .i64 (g.1 + 1)), (23, .int .i64 st1.2)], hpGet [(3, .box 24 [.int .i64 g.1, .sl (.pair (.int .i64) (.pair (.int .i64) (.pair (.int .i64) .bool))) g.2]), (19, .arr 3 (.int .i64) st1.1), (26000, .arr 4 .bool v0)], gt⟩) ((List.replicate g.1.toNat (0 : Int)), 0) hw5 (zL [] [] []) ?_
  as_aux_lemma =>
   intro st1 x8 h hd7
   unfold linealref07_ranks_b1 at h
   refine zo ?_
   refine zB [(1, .int .i64 claim), (2, .int .i64 thread), (3, .bp 3 0), (8, .own 26000), (9, .own 19), (22, .int .i64 (g.1 + 1)), (23, .int .i64 st1.2), (24, .bool (decide (st1.2 < (g.1 + 1))))] [(3, .box 24 [.int .i64 g.1, .sl (.pair (.int .i64) (.pair (.int .i64) (.pair (.int .i64) .bool))) g.2]), (19, .arr 3 (.int .i64) st1.1), (26000, .arr 4 .bool v0)] ?_
   refine AW.seq ?_
   refine zQ h (fun hb10 h => ?_) (fun hb10 h => ?_)
   ·refine zk ?_
    refine AW.have1 (fun b3_2 : (List Int) => linealref07_ranks_k2 st1 b3_2 = some x8) (fun b3_2 => ⟨fr [(1, .int .i64 claim), (2, .int .i64 thread), (3, .bp 3 0), (8, .own 26000), (9, .own 19), (22, .int .i64 (g.1 + 1)), (23, .int .i64 st1.2)], hpGet [(3, .box 24 [.int .i64 g.1, .sl (.pair (.int .i64) (.pair (.int .i64) (.pair (.int .i64) .bool))) g.2]), (19, .arr 3 (.int .i64) b3_2), (26000, .arr 4 .bool v0)], gt⟩) (fun b3_2 h => ?_) (fun hk_linealref07_ranks_k2 => ?_)
    ·as_aux_lemma =>
      unfold linealref07_ranks_k2 at h
      refine AW.ops ?_
      obtain ⟨c11, h⟩ := ck_some.1 h
      refine zA [(1, .int .i64 claim), (2, .int .i64 thread), (3, .bp 3 0), (8, .own 26000), (9, .own 19), (22, .int .i64 (g.1 + 1)), (23, .int .i64 (st1.2 + 1))] [(3, .box 24 [.int .i64 g.1, .sl (.pair (.int .i64) (.pair (.int .i64) (.pair (.int .i64) .bool))) g.2]), (19, .arr 3 (.int .i64) b3_2), (26000, .arr 4 .bool v0)] ?_
      obtain rfl := Option.some.inj h
      exact ⟨_, rfl, zL [] [] []⟩
    ·refine AW.seq ?_
     refine AW.block ?_
     refine zo ?_
     refine zB [(1, .int .i64 claim), (2, .int .i64 thread), (3, .bp 3 0), (8, .own 26000), (9, .own 19), (10, .bool true), (22, .int .i64 (g.1 + 1)), (23, .int .i64 st1.2)] [(3, .box 24 [.int .i64 g.1, .sl (.pair (.int .i64) (.pair (.int .i64) (.pair (.int .i64) .bool))) g.2]), (19, .arr 3 (.int .i64) st1.1), (26000, .arr 4 .bool v0)] ?_
     refine AW.have1 (fun b3 : (List Int) × Bool => linealref07_ranks_k3 st1 b3 = some x8) (fun b3 => ⟨fr [(1, .int .i64 claim), (2, .int .i64 thread), (3, .bp 3 0), (8, .own 26000), (9, .own 19), (10, .bool b3.2), (22, .int .i64 (g.1 + 1)), (23, .int .i64 st1.2)], hpGet [(3, .box 24 [.int .i64 g.1, .sl (.pair (.int .i64) (.pair (.int .i64) (.pair (.int .i64) .bool))) g.2]), (19, .arr 3 (.int .i64) b3.1), (26000, .arr 4 .bool v0)], gt⟩) (fun b3 h => ?_) (fun hk_linealref07_ranks_k3 => ?_)
     ·as_aux_lemma =>
       unfold linealref07_ranks_k3 at h
       refine zo ?_
       refine zB [(1, .int .i64 claim), (2, .int .i64 thread), (3, .bp 3 0), (8, .own 26000), (9, .own 19), (22, .int .i64 (g.1 + 1)), (23, .int .i64 st1.2), (74, .bool b3.2)] [(3, .box 24 [.int .i64 g.1, .sl (.pair (.int .i64) (.pair (.int .i64) (.pair (.int .i64) .bool))) g.2]), (19, .arr 3 (.int .i64) b3.1), (26000, .arr 4 .bool v0)] ?_
       refine zQ h (fun hb12 h => ?_) (fun hb12 h => ?_)
       ·refine zo ?_
        refine zB [(6, .own 19), (7, .bool true)] [(19, .arr 3 (.int .i64) b3.1)] ?_
        refine AW.ret ?_
        refine ablock_r ?_
        refine athen_r ?_
        obtain rfl := Option.some.inj h
        rw [← hd7 _ rfl] at ho6
        have h := ho6
        try simp only at h
        refine athen_r ?_
        refine ablock_r ?_
        refine athen_r ?_
        obtain rfl := Option.some.inj h
        exact zR [] [] [(2000, 19)]
       ·refine zm ?_
        refine athen_n ?_
        exact AW.weaken (zL [] [] []) (hk_linealref07_ranks_k2 _ h)
     ·refine AW.seq ?_
      refine zo ?_
      refine zB [(1, .int .i64 claim), (2, .int .i64 thread), (3, .bp 3 0), (8, .own 26000), (9, .own 19), (10, .bool true), (22, .int .i64 (g.1 + 1)), (23, .int .i64 st1.2), (26, .sl (.pair (.int .i64) (.pair (.int .i64) (.pair (.int .i64) .bool))) g.2), (27, .int .i64 (g.2.length : Int)), (28, .int .i64 0)] [(3, .box 24 [.int .i64 g.1, .sl (.pair (.int .i64) (.pair (.int .i64) (.pair (.int .i64) .bool))) g.2]), (19, .arr 3 (.int .i64) st1.1), (26000, .arr 4 .bool v0)] ?_
      refine AW.block ?_
      obtain ⟨rv17, hw13, ho14⟩ := Option.bind_eq_some_iff.1 h
      refine AW.loopO (linealref07_ranks_b2 g claim thread v0) (fun st2 => ⟨fr [(1, .int .i64 claim), (2, .int .i64 thread), (3, .bp 3 0), (8, .own 26000), (9, .own 19), (10, .bool st2.2.1), (22, .int .i64 (g.1 + 1)), (23, .int .i64 st1.2), (26, .sl (.pair (.int .i64) (.pair (.int .i64) (.pair (.int .i64) .bool))) g.2), (27, .int .i64 (g.2.length : Int)), (28, .int .i64 st2.2.2)], hpGet [(3, .box 24 [.int .i64 g.1, .sl (.pair (.int .i64) (.pair (.int .i64) (.pair (.int .i64) .bool))) g.2]), (19, .arr 3 (.int .i64) st2.1), (26000, .arr 4 .bool v0)], gt⟩) (st1.1, true, 0) hw13 (zL [] [] []) ?_
      as_aux_lemma =>
       intro st2 x16 h hd15
       unfold linealref07_ranks_b2 at h
       refine zo ?_
       refine zB [(1, .int .i64 claim), (2, .int .i64 thread), (3, .bp 3 0), (8, .own 26000), (9, .own 19), (10, .bool st2.2.1), (22, .int .i64 (g.1 + 1)), (23, .int .i64 st1.2), (26, .sl (.pair (.int .i64) (.pair (.int .i64) (.pair (.int .i64) .bool))) g.2), (27, .int .i64 (g.2.length : Int)), (28, .int .i64 st2.2.2), (29, .bool (decide (st2.2.2 < (g.2.length : Int))))] [(3, .box 24 [.int .i64 g.1, .sl (.pair (.int .i64) (.pair (.int .i64) (.pair (.int .i64) .bool))) g.2]), (19, .arr 3 (.int .i64) st2.1), (26000, .arr 4 .bool v0)] ?_
       refine AW.seq ?_
       refine zQ h (fun hb18 h => ?_) (fun hb18 h => ?_)
       ·refine zk ?_
        refine AW.seq ?_
        refine AW.block ?_
        refine zo ?_
        obtain ⟨c19, h⟩ := ck_some.1 h
        obtain ⟨c20, h⟩ := ck_some.1 h
        refine zB [(1, .int .i64 claim), (2, .int .i64 thread), (3, .bp 3 0), (8, .own 26000), (9, .own 19), (10, .bool st2.2.1), (12, .bp 12 0), (22, .int .i64 (g.1 + 1)), (23, .int .i64 st1.2), (26, .sl (.pair (.int .i64) (.pair (.int .i64) (.pair (.int .i64) .bool))) g.2), (27, .int .i64 (g.2.length : Int)), (28, .int .i64 st2.2.2)] [(3, .box 24 [.int .i64 g.1, .sl (.pair (.int .i64) (.pair (.int .i64) (.pair (.int .i64) .bool))) g.2]), (12, .box 61 [.int .i64 (g.2.getD st2.2.2.toNat (0, 0, 0, false)).1, .int .i64 (g.2.getD st2.2.2.toNat (0, 0, 0, false)).2.1, .int .i64 (g.2.getD st2.2.2.toNat (0, 0, 0, false)).2.2.1, .bool (g.2.getD st2.2.2.toNat (0, 0, 0, false)).2.2.2]), (19, .arr 3 (.int .i64) st2.1), (26000, .arr 4 .bool v0)] ?_
        refine zo ?_
        refine zS 3 [(1, .int .i64 claim), (2, .int .i64 thread), (3, .bp 3 0), (8, .own 26000), (9, .own 19), (10, .bool st2.2.1), (12, .bp 12 0), (22, .int .i64 (g.1 + 1)), (23, .int .i64 st1.2), (26, .sl (.pair (.int .i64) (.pair (.int .i64) (.pair (.int .i64) .bool))) g.2), (27, .int .i64 (g.2.length : Int)), (28, .int .i64 st2.2.2), (33, .agg [.int .i64 (g.2.getD st2.2.2.toNat (0, 0, 0, false)).1, .int .i64 (g.2.getD st2.2.2.toNat (0, 0, 0, false)).2.1, .int .i64 (g.2.getD st2.2.2.toNat (0, 0, 0, false)).2.2.1, .bool (g.2.getD st2.2.2.toNat (0, 0, 0, false)).2.2.2]), (34, .int .i64 claim), (35, .int .i64 thread)] [(3, .box 24 [.int .i64 g.1, .sl (.pair (.int .i64) (.pair (.int .i64) (.pair (.int .i64) .bool))) g.2]), (12, .box 61 [.int .i64 (g.2.getD st2.2.2.toNat (0, 0, 0, false)).1, .int .i64 (g.2.getD st2.2.2.toNat (0, 0, 0, false)).2.1, .int .i64 (g.2.getD st2.2.2.toNat (0, 0, 0, false)).2.2.1, .bool (g.2.getD st2.2.2.toNat (0, 0, 0, false)).2.2.2]), (19, .arr 3 (.int .i64) st2.1), (26000, .arr 4 .bool v0)] ?_
        obtain ⟨v0_2, hv21, h⟩ := Option.bind_eq_some_iff.1 h
        refine zC [] [] (hc_linealref07_falls (g.2.getD st2.2.2.toNat (0, 0, 0, false)) claim thread hv21) [(1, .int .i64 claim), (2, .int .i64 thread), (3, .bp 3 0), (8, .own 26000), (9, .own 19), (10, .bool st2.2.1), (12, .bp 12 0), (22, .int .i64 (g.1 + 1)), (23, .int .i64 st1.2), (26, .sl (.pair (.int .i64) (.pair (.int .i64) (.pair (.int .i64) .bool))) g.2), (27, .int .i64 (g.2.length : Int)), (28, .int .i64 st2.2.2), (36, .tup [.int .i64 v0_2.1, .bool v0_2.2])] [(3, .box 24 [.int .i64 g.1, .sl (.pair (.int .i64) (.pair (.int .i64) (.pair (.int .i64) .bool))) g.2]), (12, .box 61 [.int .i64 (g.2.getD st2.2.2.toNat (0, 0, 0, false)).1, .int .i64 (g.2.getD st2.2.2.toNat (0, 0, 0, false)).2.1, .int .i64 (g.2.getD st2.2.2.toNat (0, 0, 0, false)).2.2.1, .bool (g.2.getD st2.2.2.toNat (0, 0, 0, false)).2.2.2]), (19, .arr 3 (.int .i64) st2.1), (26000, .arr 4 .bool v0)] ?_
        refine zB [(1, .int .i64 claim), (2, .int .i64 thread), (3, .bp 3 0), (8, .own 26000), (9, .own 19), (10, .bool st2.2.1), (12, .bp 12 0), (13, .int .i64 v0_2.1), (14, .bool v0_2.2), (22, .int .i64 (g.1 + 1)), (23, .int .i64 st1.2), (26, .sl (.pair (.int .i64) (.pair (.int .i64) (.pair (.int .i64) .bool))) g.2), (27, .int .i64 (g.2.length : Int)), (28, .int .i64 st2.2.2)] [(3, .box 24 [.int .i64 g.1, .sl (.pair (.int .i64) (.pair (.int .i64) (.pair (.int .i64) .bool))) g.2]), (12, .box 61 [.int .i64 (g.2.getD st2.2.2.toNat (0, 0, 0, false)).1, .int .i64 (g.2.getD st2.2.2.toNat (0, 0, 0, false)).2.1, .int .i64 (g.2.getD st2.2.2.toNat (0, 0, 0, false)).2.2.1, .bool (g.2.getD st2.2.2.toNat (0, 0, 0, false)).2.2.2]), (19, .arr 3 (.int .i64) st2.1), (26000, .arr 4 .bool v0)] ?_
        refine AW.seq ?_
        refine AW.draw tab_ok mixed_ok [] [] (by decide) (lex_fast (by kernel_rfl)) ?_
        as_aux_lemma =>
         refine adops_cut 2 (fun K' hK22 => ?_)
         try dsimp only [List.drop_succ_cons, List.drop_zero, List.take_succ_cons, List.take_zero]
         simp only [go_sem, hb10, hb18]
         repeat with_reducible refine zN ?_
         refine hK22 _ ?_
         as_aux_lemma =>
          rcases zI h with ⟨hb23, h⟩ | ⟨hb23, h⟩
          ·simp only [hb23]
           as_aux_lemma =>
            obtain ⟨c25, h⟩ := ck_some.1 h
            obtain ⟨c26, h⟩ := ck_some.1 h
            refine adops_cut 6 (fun K' hK24 => ?_)
            try dsimp only [List.drop_succ_cons, List.drop_zero, List.take_succ_cons, List.take_zero]
            simp only [go_sem, hb10, hb18, hb23]
            repeat with_reducible refine zN ?_
            refine hK24 _ ?_
            as_aux_lemma =>
             refine adops_cut 1 (fun K' hK27 => ?_)
             try dsimp only [List.drop_succ_cons, List.drop_zero, List.take_succ_cons, List.take_zero]
             simp only [go_sem, hb10, hb18, hb23]
             repeat with_reducible refine zN ?_
             refine hK27 _ ?_
             as_aux_lemma =>
              rcases zI h with ⟨hb28, h⟩ | ⟨hb28, h⟩
              ·simp only [hb28]
               as_aux_lemma =>
                obtain ⟨c30, h⟩ := ck_some.1 h
                obtain ⟨c31, h⟩ := ck_some.1 h
                refine adops_cut 6 (fun K' hK29 => ?_)
                try dsimp only [List.drop_succ_cons, List.drop_zero, List.take_succ_cons, List.take_zero]
                simp only [go_sem, hb10, hb18, hb23, hb28]
                repeat with_reducible refine zN ?_
                refine hK29 _ ?_
                as_aux_lemma =>
                 obtain ⟨c33, h⟩ := ck_some.1 h
                 obtain ⟨c34, h⟩ := ck_some.1 h
                 obtain ⟨c35, h⟩ := ck_some.1 h
                 refine adops_cut 6 (fun K' hK32 => ?_)
                 try dsimp only [List.drop_succ_cons, List.drop_zero, List.take_succ_cons, List.take_zero]
                 simp only [go_sem, hb10, hb18, hb23, hb28]
                 repeat with_reducible refine zN ?_
                 refine hK32 _ ?_
                 as_aux_lemma =>
                  refine adops_cut 2 (fun K' hK36 => ?_)
                  try dsimp only [List.drop_succ_cons, List.drop_zero, List.take_succ_cons, List.take_zero]
                  simp only [go_sem, hb10, hb18, hb23, hb28]
                  repeat with_reducible refine zN ?_
                  refine hK36 _ ?_
                  refine adops_nil ?_
                  refine athen_n ?_
                  refine zV [(1, .int .i64 claim), (2, .int .i64 thread), (3, .bp 3 0), (8, .own 26000), (9, .own 19), (10, .bool st2.2.1), (12, .bp 12 0), (13, .int .i64 v0_2.1), (22, .int .i64 (g.1 + 1)), (23, .int .i64 st1.2), (26, .sl (.pair (.int .i64) (.pair (.int .i64) (.pair (.int .i64) .bool))) g.2), (27, .int .i64 (g.2.length : Int)), (28, .int .i64 st2.2.2), (61, .bool (decide ((st2.1.getD (g.2.getD st2.2.2.toNat (0, 0, 0, false)).1.toNat 0) < ((st2.1.getD (g.2.getD st2.2.2.toNat (0, 0, 0, false)).2.2.1.toNat 0) + v0_2.1))))] [(3, .box 24 [.int .i64 g.1, .sl (.pair (.int .i64) (.pair (.int .i64) (.pair (.int .i64) .bool))) g.2]), (12, .box 61 [.int .i64 (g.2.getD st2.2.2.toNat (0, 0, 0, false)).1, .int .i64 (g.2.getD st2.2.2.toNat (0, 0, 0, false)).2.1, .int .i64 (g.2.getD st2.2.2.toNat (0, 0, 0, false)).2.2.1, .bool (g.2.getD st2.2.2.toNat (0, 0, 0, false)).2.2.2]), (19, .arr 3 (.int .i64) st2.1), (26000, .arr 4 .bool v0)] gt ?_
                  as_aux_lemma =>
                   refine zQ h (fun hb37 h => ?_) (fun hb37 h => ?_)
                   ·refine AW.draw tab_ok mixed_ok [(11, [19])] [] (by decide) (lex_fast (by kernel_rfl)) ?_
                    as_aux_lemma =>
                     refine adops_cut 6 (fun K' hK38 => ?_)
                     try dsimp only [List.drop_succ_cons, List.drop_zero, List.take_succ_cons, List.take_zero]
                     simp only [go_sem, hb10, hb18, hb23, hb28, hb37]
                     repeat with_reducible refine zN ?_
                     refine hK38 _ ?_
                     as_aux_lemma =>
                      obtain ⟨c40, h⟩ := ck_some.1 h
                      obtain ⟨c41, h⟩ := ck_some.1 h
                      obtain ⟨c42, h⟩ := ck_some.1 h
                      obtain ⟨c43, h⟩ := ck_some.1 h
                      obtain ⟨c44, h⟩ := ck_some.1 h
                      refine adops_cut 6 (fun K' hK39 => ?_)
                      try dsimp only [List.drop_succ_cons, List.drop_zero, List.take_succ_cons, List.take_zero]
                      simp only [go_sem, hb10, hb18, hb23, hb28, hb37]
                      repeat with_reducible refine zN ?_
                      refine hK39 _ ?_
                      as_aux_lemma =>
                       refine adops_cut 1 (fun K' hK45 => ?_)
                       try dsimp only [List.drop_succ_cons, List.drop_zero, List.take_succ_cons, List.take_zero]
                       simp only [go_sem, hb10, hb18, hb23, hb28, hb37]
                       repeat with_reducible refine zN ?_
                       refine hK45 _ ?_
                       refine adops_nil ?_
                       refine ablock_n ?_
                       refine athen_n ?_
                       refine zV [(1, .int .i64 claim), (2, .int .i64 thread), (3, .bp 3 0), (8, .own 26000), (9, .own 19), (10, .bool false), (22, .int .i64 (g.1 + 1)), (23, .int .i64 st1.2), (26, .sl (.pair (.int .i64) (.pair (.int .i64) (.pair (.int .i64) .bool))) g.2), (27, .int .i64 (g.2.length : Int)), (28, .int .i64 st2.2.2)] [(3, .box 24 [.int .i64 g.1, .sl (.pair (.int .i64) (.pair (.int .i64) (.pair (.int .i64) .bool))) g.2]), (19, .arr 3 (.int .i64) (st2.1.set (g.2.getD st2.2.2.toNat (0, 0, 0, false)).1.toNat ((st2.1.getD (g.2.getD st2.2.2.toNat (0, 0, 0, false)).2.2.1.toNat 0) + v0_2.1))), (26000, .arr 4 .bool v0)] gt ?_
                       as_aux_lemma =>
                        refine AW.ops ?_
                        obtain ⟨c46, h⟩ := ck_some.1 h
                        refine zA [(1, .int .i64 claim), (2, .int .i64 thread), (3, .bp 3 0), (8, .own 26000), (9, .own 19), (10, .bool false), (22, .int .i64 (g.1 + 1)), (23, .int .i64 st1.2), (26, .sl (.pair (.int .i64) (.pair (.int .i64) (.pair (.int .i64) .bool))) g.2), (27, .int .i64 (g.2.length : Int)), (28, .int .i64 (st2.2.2 + 1))] [(3, .box 24 [.int .i64 g.1, .sl (.pair (.int .i64) (.pair (.int .i64) (.pair (.int .i64) .bool))) g.2]), (19, .arr 3 (.int .i64) (st2.1.set (g.2.getD st2.2.2.toNat (0, 0, 0, false)).1.toNat ((st2.1.getD (g.2.getD st2.2.2.toNat (0, 0, 0, false)).2.2.1.toNat 0) + v0_2.1))), (26000, .arr 4 .bool v0)] ?_
                        obtain rfl := Option.some.inj h
                        exact ⟨_, rfl, zL [] [] []⟩
                   ·refine zm ?_
                    refine athen_n ?_
                    refine AW.ops ?_
                    obtain ⟨c47, h⟩ := ck_some.1 h
                    refine zA [(1, .int .i64 claim), (2, .int .i64 thread), (3, .bp 3 0), (8, .own 26000), (9, .own 19), (10, .bool st2.2.1), (22, .int .i64 (g.1 + 1)), (23, .int .i64 st1.2), (26, .sl (.pair (.int .i64) (.pair (.int .i64) (.pair (.int .i64) .bool))) g.2), (27, .int .i64 (g.2.length : Int)), (28, .int .i64 (st2.2.2 + 1))] [(3, .box 24 [.int .i64 g.1, .sl (.pair (.int .i64) (.pair (.int .i64) (.pair (.int .i64) .bool))) g.2]), (19, .arr 3 (.int .i64) st2.1), (26000, .arr 4 .bool v0)] ?_
                    obtain rfl := Option.some.inj h
                    exact ⟨_, rfl, zL [] [] []⟩
              ·simp only [hb28]
               as_aux_lemma =>
                refine adops_cut 4 (fun K' hK48 => ?_)
                try dsimp only [List.drop_succ_cons, List.drop_zero, List.take_succ_cons, List.take_zero]
                simp only [go_sem, hb10, hb18, hb23, hb28]
                repeat with_reducible refine zN ?_
                refine hK48 _ ?_
                as_aux_lemma =>
                 refine adops_cut 4 (fun K' hK49 => ?_)
                 try dsimp only [List.drop_succ_cons, List.drop_zero, List.take_succ_cons, List.take_zero]
                 simp only [go_sem, hb10, hb18, hb23, hb28]
                 repeat with_reducible refine zN ?_
                 refine hK49 _ ?_
                 as_aux_lemma =>
                  refine adops_cut 4 (fun K' hK50 => ?_)
                  try dsimp only [List.drop_succ_cons, List.drop_zero, List.take_succ_cons, List.take_zero]
                  simp only [go_sem, hb10, hb18, hb23, hb28]
                  repeat with_reducible refine zN ?_
                  refine hK50 _ ?_
                  as_aux_lemma =>
                   refine adops_cut 2 (fun K' hK51 => ?_)
                   try dsimp only [List.drop_succ_cons, List.drop_zero, List.take_succ_cons, List.take_zero]
                   simp only [go_sem, hb10, hb18, hb23, hb28]
                   repeat with_reducible refine zN ?_
                   refine hK51 _ ?_
                   refine adops_nil ?_
                   refine athen_n ?_
                   refine zV [(1, .int .i64 claim), (2, .int .i64 thread), (3, .bp 3 0), (8, .own 26000), (9, .own 19), (10, .bool st2.2.1), (12, .bp 12 0), (13, .int .i64 v0_2.1), (22, .int .i64 (g.1 + 1)), (23, .int .i64 st1.2), (26, .sl (.pair (.int .i64) (.pair (.int .i64) (.pair (.int .i64) .bool))) g.2), (27, .int .i64 (g.2.length : Int)), (28, .int .i64 st2.2.2), (61, .bool false)] [(3, .box 24 [.int .i64 g.1, .sl (.pair (.int .i64) (.pair (.int .i64) (.pair (.int .i64) .bool))) g.2]), (12, .box 61 [.int .i64 (g.2.getD st2.2.2.toNat (0, 0, 0, false)).1, .int .i64 (g.2.getD st2.2.2.toNat (0, 0, 0, false)).2.1, .int .i64 (g.2.getD st2.2.2.toNat (0, 0, 0, false)).2.2.1, .bool (g.2.getD st2.2.2.toNat (0, 0, 0, false)).2.2.2]), (19, .arr 3 (.int .i64) st2.1), (26000, .arr 4 .bool v0)] gt ?_
                   as_aux_lemma =>
                    refine AW.cond (b := false) rfl (fun hb52 => by cases hb52) (fun _ => ?_)
                    refine zm ?_
                    refine athen_n ?_
                    refine AW.ops ?_
                    obtain ⟨c53, h⟩ := ck_some.1 h
                    refine zA [(1, .int .i64 claim), (2, .int .i64 thread), (3, .bp 3 0), (8, .own 26000), (9, .own 19), (10, .bool st2.2.1), (22, .int .i64 (g.1 + 1)), (23, .int .i64 st1.2), (26, .sl (.pair (.int .i64) (.pair (.int .i64) (.pair (.int .i64) .bool))) g.2), (27, .int .i64 (g.2.length : Int)), (28, .int .i64 (st2.2.2 + 1))] [(3, .box 24 [.int .i64 g.1, .sl (.pair (.int .i64) (.pair (.int .i64) (.pair (.int .i64) .bool))) g.2]), (19, .arr 3 (.int .i64) st2.1), (26000, .arr 4 .bool v0)] ?_
                    obtain rfl := Option.some.inj h
                    exact ⟨_, rfl, zL [] [] []⟩
          ·simp only [hb23]
           as_aux_lemma =>
            refine adops_cut 4 (fun K' hK54 => ?_)
            try dsimp only [List.drop_succ_cons, List.drop_zero, List.take_succ_cons, List.take_zero]
            simp only [go_sem, hb10, hb18, hb23]
            repeat with_reducible refine zN ?_
            refine hK54 _ ?_
            as_aux_lemma =>
             refine adops_cut 6 (fun K' hK55 => ?_)
             try dsimp only [List.drop_succ_cons, List.drop_zero, List.take_succ_cons, List.take_zero]
             simp only [go_sem, hb10, hb18, hb23]
             repeat with_reducible refine zN ?_
             refine hK55 _ ?_
             as_aux_lemma =>
              refine adops_cut 4 (fun K' hK56 => ?_)
              try dsimp only [List.drop_succ_cons, List.drop_zero, List.take_succ_cons, List.take_zero]
              simp only [go_sem, hb10, hb18, hb23]
              repeat with_reducible refine zN ?_
              refine hK56 _ ?_
              as_aux_lemma =>
               refine adops_cut 4 (fun K' hK57 => ?_)
               try dsimp only [List.drop_succ_cons, List.drop_zero, List.take_succ_cons, List.take_zero]
               simp only [go_sem, hb10, hb18, hb23]
               repeat with_reducible refine zN ?_
               refine hK57 _ ?_
               as_aux_lemma =>
                refine adops_cut 3 (fun K' hK58 => ?_)
                try dsimp only [List.drop_succ_cons, List.drop_zero, List.take_succ_cons, List.take_zero]
                simp only [go_sem, hb10, hb18, hb23]
                repeat with_reducible refine zN ?_
                refine hK58 _ ?_
                refine adops_nil ?_
                refine athen_n ?_
                refine zV [(1, .int .i64 claim), (2, .int .i64 thread), (3, .bp 3 0), (8, .own 26000), (9, .own 19), (10, .bool st2.2.1), (12, .bp 12 0), (13, .int .i64 v0_2.1), (22, .int .i64 (g.1 + 1)), (23, .int .i64 st1.2), (26, .sl (.pair (.int .i64) (.pair (.int .i64) (.pair (.int .i64) .bool))) g.2), (27, .int .i64 (g.2.length : Int)), (28, .int .i64 st2.2.2), (61, .bool false)] [(3, .box 24 [.int .i64 g.1, .sl (.pair (.int .i64) (.pair (.int .i64) (.pair (.int .i64) .bool))) g.2]), (12, .box 61 [.int .i64 (g.2.getD st2.2.2.toNat (0, 0, 0, false)).1, .int .i64 (g.2.getD st2.2.2.toNat (0, 0, 0, false)).2.1, .int .i64 (g.2.getD st2.2.2.toNat (0, 0, 0, false)).2.2.1, .bool (g.2.getD st2.2.2.toNat (0, 0, 0, false)).2.2.2]), (19, .arr 3 (.int .i64) st2.1), (26000, .arr 4 .bool v0)] gt ?_
                as_aux_lemma =>
                 refine AW.cond (b := false) rfl (fun hb59 => by cases hb59) (fun _ => ?_)
                 refine zm ?_
                 refine athen_n ?_
                 refine AW.ops ?_
                 obtain ⟨c60, h⟩ := ck_some.1 h
                 refine zA [(1, .int .i64 claim), (2, .int .i64 thread), (3, .bp 3 0), (8, .own 26000), (9, .own 19), (10, .bool st2.2.1), (22, .int .i64 (g.1 + 1)), (23, .int .i64 st1.2), (26, .sl (.pair (.int .i64) (.pair (.int .i64) (.pair (.int .i64) .bool))) g.2), (27, .int .i64 (g.2.length : Int)), (28, .int .i64 (st2.2.2 + 1))] [(3, .box 24 [.int .i64 g.1, .sl (.pair (.int .i64) (.pair (.int .i64) (.pair (.int .i64) .bool))) g.2]), (19, .arr 3 (.int .i64) st2.1), (26000, .arr 4 .bool v0)] ?_
                 obtain rfl := Option.some.inj h
                 exact ⟨_, rfl, zL [] [] []⟩
       ·refine AW.exit ?_
        refine athen_e ?_
        obtain rfl := Option.some.inj h
        rw [← hd15 _ rfl] at ho14
        have h := ho14
        refine athen_e ?_
        refine ablock_s ?_
        refine athen_n ?_
        exact AW.weaken (zL [] [] []) (hk_linealref07_ranks_k3 _ h)
   ·refine AW.exit ?_
    refine athen_e ?_
    obtain rfl := Option.some.inj h
    rw [← hd7 _ rfl] at ho6
    have h := ho6
    try simp only at h
    refine athen_e ?_
    refine ablock_s ?_
    refine athen_n ?_
    exact AW.weaken (zL [] [] []) (hk_linealref07_ranks_k1 () h)

end Go.Proofs.Yteclokkdgmacpaa
