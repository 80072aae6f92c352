/-
  Made by wip/tool/dc.py out of the print of the program: contracts.
-/
import Derived.Test.YtcgflignbhmoaaaQp
import Derived.Test.YtcgflignbhmoaaaShs
import Derived.Test.YtcgflignbhmoaaaAvd
import Derived.Test.YtcgflignbhmoaaaMgc10
import Derived.Test.YtcgflignbhmoaaaMgc6
import Derived.Test.YtcgflignbhmoaaaMgc9
namespace Go.Proofs.Ytcgflignbhmoaaa
open Go.RowKit

set_option linter.unusedSimpArgs false
set_option linter.unusedVariables false
set_option linter.constructorNameAsVariable false

set_option maxRecDepth 100000
set_option maxHeartbeats 2000000

theorem hc_linealref01_same (s : Int × Int × (List (List Int)) × (List (List Int))) (a : Int) (b : Int) {r : Bool} (h : linealref01_same s a b = some r) : HC Try.prog 68 [] [.agg [.int .i64 s.1, .int .i64 s.2.1, .sl (.sl (.int .i64)) s.2.2.1, .sl (.sl (.int .i64)) s.2.2.2], .int .i64 a, .int .i64 b] [] (.bool r) := by
 unfold linealref01_same at h
 refine zH Try.func68 [.tmp 6] 17 ?_
 refine zo ?_
 refine zB [(1, .int .i64 a), (2, .int .i64 b), (3, .bp 3 0)] [(3, .box 24 [.int .i64 s.1, .int .i64 s.2.1, .sl (.sl (.int .i64)) s.2.2.1, .sl (.sl (.int .i64)) s.2.2.2])] ?_
 refine zo ?_
 refine zS 2 [(1, .int .i64 a), (2, .int .i64 b), (7, .agg [.int .i64 s.1, .int .i64 s.2.1, .sl (.sl (.int .i64)) s.2.2.1, .sl (.sl (.int .i64)) s.2.2.2]), (8, .agg [.int .i64 s.1, .int .i64 s.2.1, .sl (.sl (.int .i64)) s.2.2.1, .sl (.sl (.int .i64)) s.2.2.2])] [] ?_
 obtain ⟨v0, hv1, h⟩ := Option.bind_eq_some_iff.1 h
 refine zC [] [] (hc_linealref01_far s s hv1) [(1, .int .i64 a), (2, .int .i64 b), (9, .sl (.sl (.int .i64)) v0)] [] ?_
 obtain ⟨c2, h⟩ := ck_some.1 h
 obtain ⟨c3, h⟩ := ck_some.1 h
 obtain ⟨c4, h⟩ := ck_some.1 h
 obtain ⟨c5, h⟩ := ck_some.1 h
 refine zS 5 [(14, .dp (.int .i64) ((v0.getD a.toNat []).getD b.toNat 0) 0)] [] ?_
 refine zB [(6, .bool (decide (((v0.getD a.toNat []).getD b.toNat 0) = 0)))] [] ?_
 refine AW.ret ?_
 obtain rfl := Option.some.inj h
 exact zR [] [] []

theorem hc_linealref01_commute (s : Int × Int × (List (List Int)) × (List (List Int))) (state : Int) (a : Int) (b : Int) {r : Bool} (h : linealref01_commute s state a b = some r) : HC Try.prog 87 [] [.agg [.int .i64 s.1, .int .i64 s.2.1, .sl (.sl (.int .i64)) s.2.2.1, .sl (.sl (.int .i64)) s.2.2.2], .int .i64 state, .int .i64 a, .int .i64 b] [] (.bool r) := by
 unfold linealref01_commute at h
 refine zH Try.func87 [.tmp 8] 53 ?_
 refine zo ?_
 refine zB [(1, .int .i64 state), (2, .int .i64 a), (3, .int .i64 b), (4, .bp 4 0)] [(4, .box 24 [.int .i64 s.1, .int .i64 s.2.1, .sl (.sl (.int .i64)) s.2.2.1, .sl (.sl (.int .i64)) s.2.2.2])] ?_
 refine zo ?_
 refine zS 5 [(1, .int .i64 state), (2, .int .i64 a), (3, .int .i64 b), (4, .bp 4 0), (14, .agg [.int .i64 s.1, .int .i64 s.2.1, .sl (.sl (.int .i64)) s.2.2.1, .sl (.sl (.int .i64)) s.2.2.2]), (15, .int .i64 state), (18, .own 18)] [(4, .box 24 [.int .i64 s.1, .int .i64 s.2.1, .sl (.sl (.int .i64)) s.2.2.1, .sl (.sl (.int .i64)) s.2.2.2]), (18, .arr 3 (.int .i64) [a, b])] ?_
 obtain ⟨v0, hv1, h⟩ := Option.bind_eq_some_iff.1 h
 refine zC [18] [] (hc_linealref01_run s state [a, b] hv1) [(1, .int .i64 state), (2, .int .i64 a), (3, .int .i64 b), (4, .bp 4 0), (19, .tup [.own 29000, .int .i64 v0.2])] [(4, .box 24 [.int .i64 s.1, .int .i64 s.2.1, .sl (.sl (.int .i64)) s.2.2.1, .sl (.sl (.int .i64)) s.2.2.2]), (29000, .arr 3 (.int .i64) v0.1)] ?_
 refine zB [(1, .int .i64 state), (2, .int .i64 a), (3, .int .i64 b), (4, .bp 4 0), (9, .own 29000), (10, .int .i64 v0.2)] [(4, .box 24 [.int .i64 s.1, .int .i64 s.2.1, .sl (.sl (.int .i64)) s.2.2.1, .sl (.sl (.int .i64)) s.2.2.2]), (29000, .arr 3 (.int .i64) v0.1)] ?_
 refine zo ?_
 refine zS 5 [(4, .bp 4 0), (9, .own 29000), (10, .int .i64 v0.2), (23, .agg [.int .i64 s.1, .int .i64 s.2.1, .sl (.sl (.int .i64)) s.2.2.1, .sl (.sl (.int .i64)) s.2.2.2]), (24, .int .i64 state), (27, .own 27)] [(4, .box 24 [.int .i64 s.1, .int .i64 s.2.1, .sl (.sl (.int .i64)) s.2.2.1, .sl (.sl (.int .i64)) s.2.2.2]), (27, .arr 3 (.int .i64) [b, a]), (29000, .arr 3 (.int .i64) v0.1)] ?_
 obtain ⟨v0_2, hv2, h⟩ := Option.bind_eq_some_iff.1 h
 refine zC [27] [] (hc_linealref01_run s state [b, a] hv2) [(4, .bp 4 0), (9, .own 29000), (10, .int .i64 v0.2), (28, .tup [.own 38000, .int .i64 v0_2.2])] [(4, .box 24 [.int .i64 s.1, .int .i64 s.2.1, .sl (.sl (.int .i64)) s.2.2.1, .sl (.sl (.int .i64)) s.2.2.2]), (29000, .arr 3 (.int .i64) v0.1), (38000, .arr 3 (.int .i64) v0_2.1)] ?_
 refine zB [(4, .bp 4 0), (9, .own 29000), (10, .int .i64 v0.2), (11, .own 38000), (12, .int .i64 v0_2.2)] [(4, .box 24 [.int .i64 s.1, .int .i64 s.2.1, .sl (.sl (.int .i64)) s.2.2.1, .sl (.sl (.int .i64)) s.2.2.2]), (29000, .arr 3 (.int .i64) v0.1), (38000, .arr 3 (.int .i64) v0_2.1)] ?_
 refine AW.seq ?_
 refine AW.draw tab_ok mixed_ok [] [] (by decide) (lex_fast (by kernel_rfl)) ?_
 as_aux_lemma =>
  obtain ⟨c4, h⟩ := ck_some.1 h
  obtain ⟨c5, h⟩ := ck_some.1 h
  refine adops_cut 6 (fun K' hK3 => ?_)
  try dsimp only [List.drop_succ_cons, List.drop_zero, List.take_succ_cons, List.take_zero]
  simp only [go_sem]
  repeat with_reducible refine zN ?_
  refine hK3 _ ?_
  as_aux_lemma =>
   refine adops_cut 2 (fun K' hK6 => ?_)
   try dsimp only [List.drop_succ_cons, List.drop_zero, List.take_succ_cons, List.take_zero]
   simp only [go_sem]
   repeat with_reducible refine zN ?_
   refine hK6 _ ?_
   as_aux_lemma =>
    rcases zI h with ⟨hb7, h⟩ | ⟨hb7, h⟩
    ·simp only [hb7]
     as_aux_lemma =>
      obtain ⟨c9, h⟩ := ck_some.1 h
      obtain ⟨c10, h⟩ := ck_some.1 h
      refine adops_cut 6 (fun K' hK8 => ?_)
      try dsimp only [List.drop_succ_cons, List.drop_zero, List.take_succ_cons, List.take_zero]
      simp only [go_sem, hb7]
      repeat with_reducible refine zN ?_
      refine hK8 _ ?_
      as_aux_lemma =>
       refine adops_cut 3 (fun K' hK11 => ?_)
       try dsimp only [List.drop_succ_cons, List.drop_zero, List.take_succ_cons, List.take_zero]
       simp only [go_sem, hb7]
       repeat with_reducible refine zN ?_
       refine hK11 _ ?_
       as_aux_lemma =>
        rcases zI h with ⟨hb12, h⟩ | ⟨hb12, h⟩
        ·simp only [hb12]
         as_aux_lemma =>
          refine adops_cut 3 (fun K' hK13 => ?_)
          try dsimp only [List.drop_succ_cons, List.drop_zero, List.take_succ_cons, List.take_zero]
          simp only [go_sem, hb7, hb12]
          repeat with_reducible refine zN ?_
          refine hK13 _ ?_
          as_aux_lemma =>
           obtain ⟨v0_3, hv14, h⟩ := Option.bind_eq_some_iff.1 h
           refine adops.call (by first | trivial | rfl) rfl rfl rfl (fun _ h => ⟨fun _ => h, fun hn => absurd rfl hn⟩) [] [] (hc_linealref01_same s v0.2 v0_2.2 hv14) rfl (by (simp only [go_sem, hb7, hb12]) <;> (with_reducible and_intros) <;> first | assumption | rfl | omega | (unfold maxLen; omega)) (by (simp only [go_sem, hb7, hb12]) <;> (with_reducible and_intros) <;> first | assumption | rfl | omega | (unfold maxLen; omega)) rfl ?_
           refine adops_cut 2 (fun K' hK15 => ?_)
           try dsimp only [List.drop_succ_cons, List.drop_zero, List.take_succ_cons, List.take_zero]
           simp only [go_sem, hb7, hb12]
           repeat with_reducible refine zN ?_
           refine hK15 _ ?_
           refine adops_nil ?_
           refine athen_n ?_
           refine zV [(8, .bool v0_3)] [] gt ?_
           as_aux_lemma =>
            refine AW.ret ?_
            obtain rfl := Option.some.inj h
            exact zR [] [] []
        ·simp only [hb12]
         as_aux_lemma =>
          refine adops_cut 4 (fun K' hK16 => ?_)
          try dsimp only [List.drop_succ_cons, List.drop_zero, List.take_succ_cons, List.take_zero]
          simp only [go_sem, hb7, hb12]
          repeat with_reducible refine zN ?_
          refine hK16 _ ?_
          as_aux_lemma =>
           refine adops_cut 2 (fun K' hK17 => ?_)
           try dsimp only [List.drop_succ_cons, List.drop_zero, List.take_succ_cons, List.take_zero]
           simp only [go_sem, hb7, hb12]
           repeat with_reducible refine zN ?_
           refine hK17 _ ?_
           refine adops_nil ?_
           refine athen_n ?_
           refine zV [(8, .bool false)] [] gt ?_
           as_aux_lemma =>
            refine AW.ret ?_
            obtain rfl := Option.some.inj h
            exact zR [] [] []
    ·simp only [hb7]
     as_aux_lemma =>
      refine adops_cut 4 (fun K' hK18 => ?_)
      try dsimp only [List.drop_succ_cons, List.drop_zero, List.take_succ_cons, List.take_zero]
      simp only [go_sem, hb7]
      repeat with_reducible refine zN ?_
      refine hK18 _ ?_
      as_aux_lemma =>
       refine adops_cut 6 (fun K' hK19 => ?_)
       try dsimp only [List.drop_succ_cons, List.drop_zero, List.take_succ_cons, List.take_zero]
       simp only [go_sem, hb7]
       repeat with_reducible refine zN ?_
       refine hK19 _ ?_
       as_aux_lemma =>
        refine adops_cut 5 (fun K' hK20 => ?_)
        try dsimp only [List.drop_succ_cons, List.drop_zero, List.take_succ_cons, List.take_zero]
        simp only [go_sem, hb7]
        repeat with_reducible refine zN ?_
        refine hK20 _ ?_
        refine adops_nil ?_
        refine athen_n ?_
        refine zV [(8, .bool false)] [] gt ?_
        as_aux_lemma =>
         refine AW.ret ?_
         obtain rfl := Option.some.inj h
         exact zR [] [] []

theorem hc_linealref01_Commute (s : Int × Int × (List (List Int)) × (List (List Int))) (state : Int) (a : Int) (b : Int) {r : Bool × Int} (h : linealref01_Commute s state a b = some r) : HC Try.prog 45 [] [.agg [.int .i64 s.1, .int .i64 s.2.1, .sl (.sl (.int .i64)) s.2.2.1, .sl (.sl (.int .i64)) s.2.2.2], .int .i64 state, .int .i64 a, .int .i64 b] [] (.tup [.bool r.1, .int .i64 r.2]) := by
 unfold linealref01_Commute at h
 refine zH Try.func45 [.tmp 8, .tmp 9] 24 ?_
 refine zo ?_
 refine zB [(1, .int .i64 state), (2, .int .i64 a), (3, .int .i64 b), (4, .bp 4 0)] [(4, .box 24 [.int .i64 s.1, .int .i64 s.2.1, .sl (.sl (.int .i64)) s.2.2.1, .sl (.sl (.int .i64)) s.2.2.2])] ?_
 refine AW.seq ?_
 refine zo ?_
 refine zS 4 [(1, .int .i64 state), (2, .int .i64 a), (3, .int .i64 b), (4, .bp 4 0), (11, .agg [.int .i64 s.1, .int .i64 s.2.1, .sl (.sl (.int .i64)) s.2.2.1, .sl (.sl (.int .i64)) s.2.2.2]), (12, .int .i64 state), (13, .int .i64 a), (14, .int .i64 b)] [(4, .box 24 [.int .i64 s.1, .int .i64 s.2.1, .sl (.sl (.int .i64)) s.2.2.1, .sl (.sl (.int .i64)) s.2.2.2])] ?_
 obtain ⟨v0, hv1, h⟩ := Option.bind_eq_some_iff.1 h
 refine zC [] [] (hc_linealref01_calls s state a b hv1) [(1, .int .i64 state), (2, .int .i64 a), (3, .int .i64 b), (4, .bp 4 0), (15, .int .i64 v0)] [(4, .box 24 [.int .i64 s.1, .int .i64 s.2.1, .sl (.sl (.int .i64)) s.2.2.1, .sl (.sl (.int .i64)) s.2.2.2])] ?_
 refine zB [(1, .int .i64 state), (2, .int .i64 a), (3, .int .i64 b), (4, .bp 4 0), (10, .int .i64 v0)] [(4, .box 24 [.int .i64 s.1, .int .i64 s.2.1, .sl (.sl (.int .i64)) s.2.2.1, .sl (.sl (.int .i64)) s.2.2.2])] ?_
 refine zo ?_
 refine zB [(1, .int .i64 state), (2, .int .i64 a), (3, .int .i64 b), (4, .bp 4 0), (10, .int .i64 v0), (17, .bool (!(decide (v0 = 0))))] [(4, .box 24 [.int .i64 s.1, .int .i64 s.2.1, .sl (.sl (.int .i64)) s.2.2.1, .sl (.sl (.int .i64)) s.2.2.2])] ?_
 refine zQ h (fun hb2 h => ?_) (fun hb2 h => ?_)
 ·refine zo ?_
  refine zB [(8, .bool false), (9, .int .i64 v0)] [] ?_
  refine zr ?_
  obtain rfl := Option.some.inj h
  exact zR [] [] []
 ·refine zk ?_
  refine zo ?_
  refine zS 4 [(19, .agg [.int .i64 s.1, .int .i64 s.2.1, .sl (.sl (.int .i64)) s.2.2.1, .sl (.sl (.int .i64)) s.2.2.2]), (20, .int .i64 state), (21, .int .i64 a), (22, .int .i64 b)] [] ?_
  obtain ⟨v0_2, hv3, h⟩ := Option.bind_eq_some_iff.1 h
  refine zC [] [] (hc_linealref01_commute s state a b hv3) [(23, .bool v0_2)] [] ?_
  refine zB [(8, .bool v0_2), (9, .int .i64 0)] [] ?_
  refine AW.ret ?_
  obtain rfl := Option.some.inj h
  exact zR [] [] []

theorem hc_linealref01_overwrites (s : Int × Int × (List (List Int)) × (List (List Int))) (state : Int) (a : Int) (b : Int) {r : Bool} (h : linealref01_overwrites s state a b = some r) : HC Try.prog 89 [] [.agg [.int .i64 s.1, .int .i64 s.2.1, .sl (.sl (.int .i64)) s.2.2.1, .sl (.sl (.int .i64)) s.2.2.2], .int .i64 state, .int .i64 a, .int .i64 b] [] (.bool r) := by
 unfold linealref01_overwrites at h
 refine zH Try.func89 [.tmp 8] 43 ?_
 refine zo ?_
 refine zB [(1, .int .i64 state), (2, .int .i64 a), (3, .int .i64 b), (4, .bp 4 0)] [(4, .box 24 [.int .i64 s.1, .int .i64 s.2.1, .sl (.sl (.int .i64)) s.2.2.1, .sl (.sl (.int .i64)) s.2.2.2])] ?_
 refine zo ?_
 refine zS 5 [(1, .int .i64 state), (3, .int .i64 b), (4, .bp 4 0), (14, .agg [.int .i64 s.1, .int .i64 s.2.1, .sl (.sl (.int .i64)) s.2.2.1, .sl (.sl (.int .i64)) s.2.2.2]), (15, .int .i64 state), (18, .own 18)] [(4, .box 24 [.int .i64 s.1, .int .i64 s.2.1, .sl (.sl (.int .i64)) s.2.2.1, .sl (.sl (.int .i64)) s.2.2.2]), (18, .arr 3 (.int .i64) [a, b])] ?_
 obtain ⟨v0, hv1, h⟩ := Option.bind_eq_some_iff.1 h
 refine zC [18] [] (hc_linealref01_run s state [a, b] hv1) [(1, .int .i64 state), (3, .int .i64 b), (4, .bp 4 0), (19, .tup [.own 29000, .int .i64 v0.2])] [(4, .box 24 [.int .i64 s.1, .int .i64 s.2.1, .sl (.sl (.int .i64)) s.2.2.1, .sl (.sl (.int .i64)) s.2.2.2]), (29000, .arr 3 (.int .i64) v0.1)] ?_
 refine zB [(1, .int .i64 state), (3, .int .i64 b), (4, .bp 4 0), (9, .own 29000), (10, .int .i64 v0.2)] [(4, .box 24 [.int .i64 s.1, .int .i64 s.2.1, .sl (.sl (.int .i64)) s.2.2.1, .sl (.sl (.int .i64)) s.2.2.2]), (29000, .arr 3 (.int .i64) v0.1)] ?_
 refine zo ?_
 refine zS 4 [(4, .bp 4 0), (9, .own 29000), (10, .int .i64 v0.2), (23, .agg [.int .i64 s.1, .int .i64 s.2.1, .sl (.sl (.int .i64)) s.2.2.1, .sl (.sl (.int .i64)) s.2.2.2]), (24, .int .i64 state), (26, .own 26)] [(4, .box 24 [.int .i64 s.1, .int .i64 s.2.1, .sl (.sl (.int .i64)) s.2.2.1, .sl (.sl (.int .i64)) s.2.2.2]), (26, .arr 3 (.int .i64) [b]), (29000, .arr 3 (.int .i64) v0.1)] ?_
 obtain ⟨v0_2, hv2, h⟩ := Option.bind_eq_some_iff.1 h
 refine zC [26] [] (hc_linealref01_run s state [b] hv2) [(4, .bp 4 0), (9, .own 29000), (10, .int .i64 v0.2), (27, .tup [.own 37000, .int .i64 v0_2.2])] [(4, .box 24 [.int .i64 s.1, .int .i64 s.2.1, .sl (.sl (.int .i64)) s.2.2.1, .sl (.sl (.int .i64)) s.2.2.2]), (29000, .arr 3 (.int .i64) v0.1), (37000, .arr 3 (.int .i64) v0_2.1)] ?_
 refine zB [(4, .bp 4 0), (9, .own 29000), (10, .int .i64 v0.2), (11, .own 37000), (12, .int .i64 v0_2.2)] [(4, .box 24 [.int .i64 s.1, .int .i64 s.2.1, .sl (.sl (.int .i64)) s.2.2.1, .sl (.sl (.int .i64)) s.2.2.2]), (29000, .arr 3 (.int .i64) v0.1), (37000, .arr 3 (.int .i64) v0_2.1)] ?_
 refine AW.seq ?_
 refine AW.draw tab_ok mixed_ok [] [] (by decide) (lex_fast (by kernel_rfl)) ?_
 as_aux_lemma =>
  obtain ⟨c4, h⟩ := ck_some.1 h
  obtain ⟨c5, h⟩ := ck_some.1 h
  refine adops_cut 6 (fun K' hK3 => ?_)
  try dsimp only [List.drop_succ_cons, List.drop_zero, List.take_succ_cons, List.take_zero]
  simp only [go_sem]
  repeat with_reducible refine zN ?_
  refine hK3 _ ?_
  as_aux_lemma =>
   refine adops_cut 2 (fun K' hK6 => ?_)
   try dsimp only [List.drop_succ_cons, List.drop_zero, List.take_succ_cons, List.take_zero]
   simp only [go_sem]
   repeat with_reducible refine zN ?_
   refine hK6 _ ?_
   as_aux_lemma =>
    rcases zI h with ⟨hb7, h⟩ | ⟨hb7, h⟩
    ·simp only [hb7]
     as_aux_lemma =>
      refine adops_cut 3 (fun K' hK8 => ?_)
      try dsimp only [List.drop_succ_cons, List.drop_zero, List.take_succ_cons, List.take_zero]
      simp only [go_sem, hb7]
      repeat with_reducible refine zN ?_
      refine hK8 _ ?_
      as_aux_lemma =>
       obtain ⟨v0_3, hv9, h⟩ := Option.bind_eq_some_iff.1 h
       refine adops.call (by first | trivial | rfl) rfl rfl rfl (fun _ h => ⟨fun _ => h, fun hn => absurd rfl hn⟩) [] [] (hc_linealref01_same s v0.2 v0_2.2 hv9) rfl (by (simp only [go_sem, hb7]) <;> (with_reducible and_intros) <;> first | assumption | rfl | omega | (unfold maxLen; omega)) (by (simp only [go_sem, hb7]) <;> (with_reducible and_intros) <;> first | assumption | rfl | omega | (unfold maxLen; omega)) rfl ?_
       refine adops_cut 2 (fun K' hK10 => ?_)
       try dsimp only [List.drop_succ_cons, List.drop_zero, List.take_succ_cons, List.take_zero]
       simp only [go_sem, hb7]
       repeat with_reducible refine zN ?_
       refine hK10 _ ?_
       refine adops_nil ?_
       refine athen_n ?_
       refine zV [(8, .bool v0_3)] [] gt ?_
       as_aux_lemma =>
        refine AW.ret ?_
        obtain rfl := Option.some.inj h
        exact zR [] [] []
    ·simp only [hb7]
     as_aux_lemma =>
      refine adops_cut 4 (fun K' hK11 => ?_)
      try dsimp only [List.drop_succ_cons, List.drop_zero, List.take_succ_cons, List.take_zero]
      simp only [go_sem, hb7]
      repeat with_reducible refine zN ?_
      refine hK11 _ ?_
      as_aux_lemma =>
       refine adops_cut 2 (fun K' hK12 => ?_)
       try dsimp only [List.drop_succ_cons, List.drop_zero, List.take_succ_cons, List.take_zero]
       simp only [go_sem, hb7]
       repeat with_reducible refine zN ?_
       refine hK12 _ ?_
       refine adops_nil ?_
       refine athen_n ?_
       refine zV [(8, .bool false)] [] gt ?_
       as_aux_lemma =>
        refine AW.ret ?_
        obtain rfl := Option.some.inj h
        exact zR [] [] []

theorem hc_linealref01_Overwrites (s : Int × Int × (List (List Int)) × (List (List Int))) (state : Int) (a : Int) (b : Int) {r : Bool × Int} (h : linealref01_Overwrites s state a b = some r) : HC Try.prog 47 [] [.agg [.int .i64 s.1, .int .i64 s.2.1, .sl (.sl (.int .i64)) s.2.2.1, .sl (.sl (.int .i64)) s.2.2.2], .int .i64 state, .int .i64 a, .int .i64 b] [] (.tup [.bool r.1, .int .i64 r.2]) := by
 unfold linealref01_Overwrites at h
 refine zH Try.func47 [.tmp 8, .tmp 9] 24 ?_
 refine zo ?_
 refine zB [(1, .int .i64 state), (2, .int .i64 a), (3, .int .i64 b), (4, .bp 4 0)] [(4, .box 24 [.int .i64 s.1, .int .i64 s.2.1, .sl (.sl (.int .i64)) s.2.2.1, .sl (.sl (.int .i64)) s.2.2.2])] ?_
 refine AW.seq ?_
 refine zo ?_
 refine zS 4 [(1, .int .i64 state), (2, .int .i64 a), (3, .int .i64 b), (4, .bp 4 0), (11, .agg [.int .i64 s.1, .int .i64 s.2.1, .sl (.sl (.int .i64)) s.2.2.1, .sl (.sl (.int .i64)) s.2.2.2]), (12, .int .i64 state), (13, .int .i64 a), (14, .int .i64 b)] [(4, .box 24 [.int .i64 s.1, .int .i64 s.2.1, .sl (.sl (.int .i64)) s.2.2.1, .sl (.sl (.int .i64)) s.2.2.2])] ?_
 obtain ⟨v0, hv1, h⟩ := Option.bind_eq_some_iff.1 h
 refine zC [] [] (hc_linealref01_calls s state a b hv1) [(1, .int .i64 state), (2, .int .i64 a), (3, .int .i64 b), (4, .bp 4 0), (15, .int .i64 v0)] [(4, .box 24 [.int .i64 s.1, .int .i64 s.2.1, .sl (.sl (.int .i64)) s.2.2.1, .sl (.sl (.int .i64)) s.2.2.2])] ?_
 refine zB [(1, .int .i64 state), (2, .int .i64 a), (3, .int .i64 b), (4, .bp 4 0), (10, .int .i64 v0)] [(4, .box 24 [.int .i64 s.1, .int .i64 s.2.1, .sl (.sl (.int .i64)) s.2.2.1, .sl (.sl (.int .i64)) s.2.2.2])] ?_
 refine zo ?_
 refine zB [(1, .int .i64 state), (2, .int .i64 a), (3, .int .i64 b), (4, .bp 4 0), (10, .int .i64 v0), (17, .bool (!(decide (v0 = 0))))] [(4, .box 24 [.int .i64 s.1, .int .i64 s.2.1, .sl (.sl (.int .i64)) s.2.2.1, .sl (.sl (.int .i64)) s.2.2.2])] ?_
 refine zQ h (fun hb2 h => ?_) (fun hb2 h => ?_)
 ·refine zo ?_
  refine zB [(8, .bool false), (9, .int .i64 v0)] [] ?_
  refine zr ?_
  obtain rfl := Option.some.inj h
  exact zR [] [] []
 ·refine zk ?_
  refine zo ?_
  refine zS 4 [(19, .agg [.int .i64 s.1, .int .i64 s.2.1, .sl (.sl (.int .i64)) s.2.2.1, .sl (.sl (.int .i64)) s.2.2.2]), (20, .int .i64 state), (21, .int .i64 a), (22, .int .i64 b)] [] ?_
  obtain ⟨v0_2, hv3, h⟩ := Option.bind_eq_some_iff.1 h
  refine zC [] [] (hc_linealref01_overwrites s state a b hv3) [(23, .bool v0_2)] [] ?_
  refine zB [(8, .bool v0_2), (9, .int .i64 0)] [] ?_
  refine AW.ret ?_
  obtain rfl := Option.some.inj h
  exact zR [] [] []

end Go.Proofs.Ytcgflignbhmoaaa
