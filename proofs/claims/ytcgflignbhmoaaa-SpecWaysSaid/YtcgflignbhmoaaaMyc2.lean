/-
  Made by wip/tool/dc.py out of the print of the program: contracts.
-/
import Derived.Test.YtcgflignbhmoaaaQp
import Derived.Test.YtcgflignbhmoaaaShs
import Derived.Test.YtcgflignbhmoaaaAvd
import Derived.Test.YtcgflignbhmoaaaMyc1
namespace Go.Proofs.Ytcgflignbhmoaaa
open Go.RowKit

set_option linter.unusedSimpArgs false
set_option linter.unusedVariables false
set_option linter.constructorNameAsVariable false

set_option maxRecDepth 100000
set_option maxHeartbeats 2000000

theorem ic_spec_walk_1 {S R : Type} (a1 : Int × Int) (a2 : Int × Int × (List (List Int)) × (List (List Int))) (a3 : Int × Int × (List (List Int)) × (List (List Int))) (yl : (Int × Int) × (List Int) → S → Option (Step S R)) (s0 : S) {r : Sum S R} (h : spec_walk_1 S R a1 a2 a3 yl s0 = some r) : IC Try.prog 100 [(1000, .box 75 [.int .i64 a1.1, .int .i64 a1.2]), (1001, .box 60 [.int .i64 a2.1, .int .i64 a2.2.1, .sl (.sl (.int .i64)) a2.2.2.1, .sl (.sl (.int .i64)) a2.2.2.2]), (1002, .box 60 [.int .i64 a3.1, .int .i64 a3.2.1, .sl (.sl (.int .i64)) a3.2.2.1, .sl (.sl (.int .i64)) a3.2.2.2])] [.bp 1000 0, .bp 1001 0, .bp 1002 0] (fun (y : (Int × Int) × (List Int)) => [.agg [.int .i64 y.1.1, .int .i64 y.1.2], .sl (.int .i64) y.2]) yl s0 r := by
 unfold spec_walk_1 at h
 refine IC.of_body Try.func100 rfl (by kernel_rfl) rfl (nt := 79) rfl (by decide) (by simp) ?_
 intro Γ Γx lp hΓ hΓx hY
 refine zo ?_
 refine zB [(0, .fn (.yield lp) [] []), (1, .bp 1000 0), (2, .bp 1001 0), (3, .bp 1002 0), (5, .own 14)] [(14, .arr 75 (.pair (.int .i64) (.int .i64)) [a1]), (1000, .box 75 [.int .i64 a1.1, .int .i64 a1.2]), (1001, .box 60 [.int .i64 a2.1, .int .i64 a2.2.1, .sl (.sl (.int .i64)) a2.2.2.1, .sl (.sl (.int .i64)) a2.2.2.2]), (1002, .box 60 [.int .i64 a3.1, .int .i64 a3.2.1, .sl (.sl (.int .i64)) a3.2.2.1, .sl (.sl (.int .i64)) a3.2.2.2])] ?_
 refine zo ?_
 refine zB [(0, .fn (.yield lp) [] []), (1, .bp 1000 0), (2, .bp 1001 0), (3, .bp 1002 0), (5, .own 14), (6, .own 15)] [(14, .arr 75 (.pair (.int .i64) (.int .i64)) [a1]), (15, .arr 25 (.sl (.int .i64)) [[]]), (1000, .box 75 [.int .i64 a1.1, .int .i64 a1.2]), (1001, .box 60 [.int .i64 a2.1, .int .i64 a2.2.1, .sl (.sl (.int .i64)) a2.2.2.1, .sl (.sl (.int .i64)) a2.2.2.2]), (1002, .box 60 [.int .i64 a3.1, .int .i64 a3.2.1, .sl (.sl (.int .i64)) a3.2.2.1, .sl (.sl (.int .i64)) a3.2.2.2])] ?_
 refine zo ?_
 refine AO.makeMap (ak := true) (ae := false) (kt := (.pair (.int .i64) (.int .i64))) (vt := .bool) (by decide) (by decide) rfl rfl ?_
 refine zT [(0, .fn (.yield lp) [] []), (1, .bp 1000 0), (2, .bp 1001 0), (3, .bp 1002 0), (5, .own 14), (6, .own 15), (16, .own 16)] [(14, .arr 75 (.pair (.int .i64) (.int .i64)) [a1]), (15, .arr 25 (.sl (.int .i64)) [[]]), (16, .map true false (.pair (.int .i64) (.int .i64)) .bool []), (1000, .box 75 [.int .i64 a1.1, .int .i64 a1.2]), (1001, .box 60 [.int .i64 a2.1, .int .i64 a2.2.1, .sl (.sl (.int .i64)) a2.2.2.1, .sl (.sl (.int .i64)) a2.2.2.2]), (1002, .box 60 [.int .i64 a3.1, .int .i64 a3.2.1, .sl (.sl (.int .i64)) a3.2.2.1, .sl (.sl (.int .i64)) a3.2.2.2])] (Γ s0) ?_
 refine zS 1 [(0, .fn (.yield lp) [] []), (2, .bp 1001 0), (3, .bp 1002 0), (5, .own 14), (6, .own 15), (16, .own 16), (17, .agg [.int .i64 a1.1, .int .i64 a1.2])] [(14, .arr 75 (.pair (.int .i64) (.int .i64)) [a1]), (15, .arr 25 (.sl (.int .i64)) [[]]), (16, .map true false (.pair (.int .i64) (.int .i64)) .bool []), (1000, .box 75 [.int .i64 a1.1, .int .i64 a1.2]), (1001, .box 60 [.int .i64 a2.1, .int .i64 a2.2.1, .sl (.sl (.int .i64)) a2.2.2.1, .sl (.sl (.int .i64)) a2.2.2.2]), (1002, .box 60 [.int .i64 a3.1, .int .i64 a3.2.1, .sl (.sl (.int .i64)) a3.2.2.1, .sl (.sl (.int .i64)) a3.2.2.2])] ?_
 obtain ⟨c1, h⟩ := ck_some.1 h
 obtain ⟨c2, h⟩ := ck_some.1 h
 refine AO.mapPut mapty_106 (by decide) rfl (.inr rfl) rfl rfl (l := [.int .i64 a1.1, .int .i64 a1.2]) (by (simp only [go_sem]) <;> (with_reducible and_intros) <;> first | assumption | rfl | omega | (unfold maxLen; omega)) (by first | rfl | (simp only [go_sem]) <;> (with_reducible and_intros) <;> first | assumption | rfl | omega | (unfold maxLen; omega)) (by (simp only [go_sem]) <;> (with_reducible and_intros) <;> first | assumption | rfl | omega | (unfold maxLen; omega)) (lv := [.bool true]) (by (simp only [go_sem]) <;> (with_reducible and_intros) <;> first | assumption | rfl | omega | (unfold maxLen; omega)) (by first | rfl | (simp only [go_sem]) <;> (with_reducible and_intros) <;> first | assumption | rfl | omega | (unfold maxLen; omega)) ?_
 refine zT [(0, .fn (.yield lp) [] []), (2, .bp 1001 0), (3, .bp 1002 0), (5, .own 14), (6, .own 15), (16, .own 16)] [(14, .arr 75 (.pair (.int .i64) (.int .i64)) [a1]), (15, .arr 25 (.sl (.int .i64)) [[]]), (16, .map true false (.pair (.int .i64) (.int .i64)) .bool (mput [] a1 true)), (1000, .box 75 [.int .i64 a1.1, .int .i64 a1.2]), (1001, .box 60 [.int .i64 a2.1, .int .i64 a2.2.1, .sl (.sl (.int .i64)) a2.2.2.1, .sl (.sl (.int .i64)) a2.2.2.2]), (1002, .box 60 [.int .i64 a3.1, .int .i64 a3.2.1, .sl (.sl (.int .i64)) a3.2.2.1, .sl (.sl (.int .i64)) a3.2.2.2])] (Γ s0) ?_
 refine zB [(0, .fn (.yield lp) [] []), (2, .bp 1001 0), (3, .bp 1002 0), (5, .own 14), (6, .own 15), (7, .own 16)] [(14, .arr 75 (.pair (.int .i64) (.int .i64)) [a1]), (15, .arr 25 (.sl (.int .i64)) [[]]), (16, .map true false (.pair (.int .i64) (.int .i64)) .bool (mput [] a1 true)), (1000, .box 75 [.int .i64 a1.1, .int .i64 a1.2]), (1001, .box 60 [.int .i64 a2.1, .int .i64 a2.2.1, .sl (.sl (.int .i64)) a2.2.2.1, .sl (.sl (.int .i64)) a2.2.2.2]), (1002, .box 60 [.int .i64 a3.1, .int .i64 a3.2.1, .sl (.sl (.int .i64)) a3.2.2.1, .sl (.sl (.int .i64)) a3.2.2.2])] ?_
 refine zo ?_
 refine zB [(0, .fn (.yield lp) [] []), (2, .bp 1001 0), (3, .bp 1002 0), (5, .own 14), (6, .own 15), (7, .own 16), (8, .int .i64 0)] [(14, .arr 75 (.pair (.int .i64) (.int .i64)) [a1]), (15, .arr 25 (.sl (.int .i64)) [[]]), (16, .map true false (.pair (.int .i64) (.int .i64)) .bool (mput [] a1 true)), (1000, .box 75 [.int .i64 a1.1, .int .i64 a1.2]), (1001, .box 60 [.int .i64 a2.1, .int .i64 a2.2.1, .sl (.sl (.int .i64)) a2.2.2.1, .sl (.sl (.int .i64)) a2.2.2.2]), (1002, .box 60 [.int .i64 a3.1, .int .i64 a3.2.1, .sl (.sl (.int .i64)) a3.2.2.1, .sl (.sl (.int .i64)) a3.2.2.2])] ?_
 refine AW.block ?_
 obtain ⟨rv7, hw3, ho4⟩ := Option.bind_eq_some_iff.1 h
 refine AW.loopO (spec_walk_1_b1 S R a2 a3 yl) (fun st1 => ⟨fr [(0, .fn (.yield lp) [] []), (2, .bp 1001 0), (3, .bp 1002 0), (5, .own 14), (6, .own 15), (7, .own 16), (8, .int .i64 st1.2.2.2.1)], hpGet [(14, .arr 75 (.pair (.int .i64) (.int .i64)) st1.1), (15, .arr 25 (.sl (.int .i64)) st1.2.1), (16, .map true false (.pair (.int .i64) (.int .i64)) .bool st1.2.2.1), (1000, .box 75 [.int .i64 a1.1, .int .i64 a1.2]), (1001, .box 60 [.int .i64 a2.1, .int .i64 a2.2.1, .sl (.sl (.int .i64)) a2.2.2.1, .sl (.sl (.int .i64)) a2.2.2.2]), (1002, .box 60 [.int .i64 a3.1, .int .i64 a3.2.1, .sl (.sl (.int .i64)) a3.2.2.1, .sl (.sl (.int .i64)) a3.2.2.2])], (Γ st1.2.2.2.2)⟩) ([a1], [[]], (mput [] a1 true), 0, s0) hw3 (zL [] [] []) ?_
 as_aux_lemma =>
  intro st1 x6 h hd5
  unfold spec_walk_1_b1 at h
  refine AW.seq ?_
  refine zo ?_
  refine zB [(0, .fn (.yield lp) [] []), (2, .bp 1001 0), (3, .bp 1002 0), (5, .own 14), (6, .own 15), (7, .own 16), (8, .int .i64 st1.2.2.2.1), (22, .bool (decide (st1.2.2.2.1 < (st1.1.length : Int))))] [(14, .arr 75 (.pair (.int .i64) (.int .i64)) st1.1), (15, .arr 25 (.sl (.int .i64)) st1.2.1), (16, .map true false (.pair (.int .i64) (.int .i64)) .bool st1.2.2.1), (1000, .box 75 [.int .i64 a1.1, .int .i64 a1.2]), (1001, .box 60 [.int .i64 a2.1, .int .i64 a2.2.1, .sl (.sl (.int .i64)) a2.2.2.1, .sl (.sl (.int .i64)) a2.2.2.2]), (1002, .box 60 [.int .i64 a3.1, .int .i64 a3.2.1, .sl (.sl (.int .i64)) a3.2.2.1, .sl (.sl (.int .i64)) a3.2.2.2])] ?_
  refine zQ h (fun hb8 h => ?_) (fun hb8 h => ?_)
  ·refine zk ?_
   refine AW.have1 (fun b1 : (List (Int × Int)) × (List (List Int)) × (List ((Int × Int) × Bool)) × S => spec_walk_1_k1 S R st1 b1 = some x6) (fun b1 => ⟨fr [(0, .fn (.yield lp) [] []), (2, .bp 1001 0), (3, .bp 1002 0), (5, .own 14), (6, .own 15), (7, .own 16), (8, .int .i64 st1.2.2.2.1)], hpGet [(14, .arr 75 (.pair (.int .i64) (.int .i64)) b1.1), (15, .arr 25 (.sl (.int .i64)) b1.2.1), (16, .map true false (.pair (.int .i64) (.int .i64)) .bool b1.2.2.1), (1000, .box 75 [.int .i64 a1.1, .int .i64 a1.2]), (1001, .box 60 [.int .i64 a2.1, .int .i64 a2.2.1, .sl (.sl (.int .i64)) a2.2.2.1, .sl (.sl (.int .i64)) a2.2.2.2]), (1002, .box 60 [.int .i64 a3.1, .int .i64 a3.2.1, .sl (.sl (.int .i64)) a3.2.2.1, .sl (.sl (.int .i64)) a3.2.2.2])], (Γ b1.2.2.2)⟩) (fun b1 h => ?_) (fun hk_spec_walk_1_k1 => ?_)
   ·as_aux_lemma =>
     unfold spec_walk_1_k1 at h
     refine AW.ops ?_
     obtain ⟨c9, h⟩ := ck_some.1 h
     refine zA [(0, .fn (.yield lp) [] []), (2, .bp 1001 0), (3, .bp 1002 0), (5, .own 14), (6, .own 15), (7, .own 16), (8, .int .i64 (st1.2.2.2.1 + 1))] [(14, .arr 75 (.pair (.int .i64) (.int .i64)) b1.1), (15, .arr 25 (.sl (.int .i64)) b1.2.1), (16, .map true false (.pair (.int .i64) (.int .i64)) .bool b1.2.2.1), (1000, .box 75 [.int .i64 a1.1, .int .i64 a1.2]), (1001, .box 60 [.int .i64 a2.1, .int .i64 a2.2.1, .sl (.sl (.int .i64)) a2.2.2.1, .sl (.sl (.int .i64)) a2.2.2.2]), (1002, .box 60 [.int .i64 a3.1, .int .i64 a3.2.1, .sl (.sl (.int .i64)) a3.2.2.1, .sl (.sl (.int .i64)) a3.2.2.2])] ?_
     obtain rfl := Option.some.inj h
     exact ⟨_, rfl, zL [] [] []⟩
   ·refine AW.seq ?_
    refine AW.block ?_
    refine AW.seq ?_
    refine AW.draw tab_ok mixed_ok [(8, [9]), (9, [9])] [(0, [14]), (1, []), (2, [14]), (3, [14]), (4, [15]), (5, []), (6, [15]), (7, [15]), (100009, [])] (by decide) (lex_fast (by kernel_rfl)) ?_
    as_aux_lemma =>
     obtain ⟨c11, h⟩ := ck_some.1 h
     obtain ⟨c12, h⟩ := ck_some.1 h
     refine adops_cut 6 (fun K' hK10 => ?_)
     try dsimp only [List.drop_succ_cons, List.drop_zero, List.take_succ_cons, List.take_zero]
     simp only [go_sem, hb8]
     repeat with_reducible refine zN ?_
     refine hK10 _ ?_
     as_aux_lemma =>
      obtain ⟨c14, h⟩ := ck_some.1 h
      obtain ⟨c15, h⟩ := ck_some.1 h
      refine adops_cut 5 (fun K' hK13 => ?_)
      try dsimp only [List.drop_succ_cons, List.drop_zero, List.take_succ_cons, List.take_zero]
      simp only [go_sem, hb8]
      repeat with_reducible refine zN ?_
      refine hK13 _ ?_
      refine adops_nil ?_
      refine athen_n ?_
      refine zV [(0, .fn (.yield lp) [] []), (2, .bp 1001 0), (3, .bp 1002 0), (5, .own 14), (6, .own 15), (7, .own 16), (8, .int .i64 st1.2.2.2.1), (9, .bp 9 0), (10, .sl (.int .i64) (st1.2.1.getD st1.2.2.2.1.toNat []))] [(9, .box 75 [.int .i64 (st1.1.getD st1.2.2.2.1.toNat (0, 0)).1, .int .i64 (st1.1.getD st1.2.2.2.1.toNat (0, 0)).2]), (14, .arr 75 (.pair (.int .i64) (.int .i64)) st1.1), (15, .arr 25 (.sl (.int .i64)) st1.2.1), (16, .map true false (.pair (.int .i64) (.int .i64)) .bool st1.2.2.1), (1000, .box 75 [.int .i64 a1.1, .int .i64 a1.2]), (1001, .box 60 [.int .i64 a2.1, .int .i64 a2.2.1, .sl (.sl (.int .i64)) a2.2.2.1, .sl (.sl (.int .i64)) a2.2.2.2]), (1002, .box 60 [.int .i64 a3.1, .int .i64 a3.2.1, .sl (.sl (.int .i64)) a3.2.2.1, .sl (.sl (.int .i64)) a3.2.2.2])] (Γ st1.2.2.2.2) ?_
      as_aux_lemma =>
       refine AW.seq ?_
       refine zo ?_
       refine zS 3 [(0, .fn (.yield lp) [] []), (2, .bp 1001 0), (3, .bp 1002 0), (5, .own 14), (6, .own 15), (7, .own 16), (8, .int .i64 st1.2.2.2.1), (9, .bp 9 0), (10, .sl (.int .i64) (st1.2.1.getD st1.2.2.2.1.toNat [])), (33, .fn (.yield lp) [] []), (34, .agg [.int .i64 (st1.1.getD st1.2.2.2.1.toNat (0, 0)).1, .int .i64 (st1.1.getD st1.2.2.2.1.toNat (0, 0)).2]), (35, .sl (.int .i64) (st1.2.1.getD st1.2.2.2.1.toNat []))] [(9, .box 75 [.int .i64 (st1.1.getD st1.2.2.2.1.toNat (0, 0)).1, .int .i64 (st1.1.getD st1.2.2.2.1.toNat (0, 0)).2]), (14, .arr 75 (.pair (.int .i64) (.int .i64)) st1.1), (15, .arr 25 (.sl (.int .i64)) st1.2.1), (16, .map true false (.pair (.int .i64) (.int .i64)) .bool st1.2.2.1), (1000, .box 75 [.int .i64 a1.1, .int .i64 a1.2]), (1001, .box 60 [.int .i64 a2.1, .int .i64 a2.2.1, .sl (.sl (.int .i64)) a2.2.2.1, .sl (.sl (.int .i64)) a2.2.2.2]), (1002, .box 60 [.int .i64 a3.1, .int .i64 a3.2.1, .sl (.sl (.int .i64)) a3.2.2.1, .sl (.sl (.int .i64)) a3.2.2.2])] ?_
       obtain ⟨x16, hx17, h⟩ := Option.bind_eq_some_iff.1 h
       refine yield_op rfl rfl rfl (by decide) _ rfl hY hΓ hΓx ((st1.1.getD st1.2.2.2.1.toNat (0, 0)), (st1.2.1.getD st1.2.2.2.1.toNat [])) [] (by (simp only [go_sem, hb8]) <;> (with_reducible and_intros) <;> first | assumption | rfl | omega | (unfold maxLen; omega)) hx17 ?_
       cases x16 with
       | next s =>
        try simp only at h
        refine zT [(0, .fn (.yield lp) [] []), (2, .bp 1001 0), (3, .bp 1002 0), (5, .own 14), (6, .own 15), (7, .own 16), (8, .int .i64 st1.2.2.2.1), (9, .bp 9 0), (10, .sl (.int .i64) (st1.2.1.getD st1.2.2.2.1.toNat [])), (36, .bool true)] [(9, .box 75 [.int .i64 (st1.1.getD st1.2.2.2.1.toNat (0, 0)).1, .int .i64 (st1.1.getD st1.2.2.2.1.toNat (0, 0)).2]), (14, .arr 75 (.pair (.int .i64) (.int .i64)) st1.1), (15, .arr 25 (.sl (.int .i64)) st1.2.1), (16, .map true false (.pair (.int .i64) (.int .i64)) .bool st1.2.2.1), (1000, .box 75 [.int .i64 a1.1, .int .i64 a1.2]), (1001, .box 60 [.int .i64 a2.1, .int .i64 a2.2.1, .sl (.sl (.int .i64)) a2.2.2.1, .sl (.sl (.int .i64)) a2.2.2.2]), (1002, .box 60 [.int .i64 a3.1, .int .i64 a3.2.1, .sl (.sl (.int .i64)) a3.2.2.1, .sl (.sl (.int .i64)) a3.2.2.2])] (Γ s) ?_
        refine zB [(0, .fn (.yield lp) [] []), (2, .bp 1001 0), (3, .bp 1002 0), (5, .own 14), (6, .own 15), (7, .own 16), (8, .int .i64 st1.2.2.2.1), (9, .bp 9 0), (10, .sl (.int .i64) (st1.2.1.getD st1.2.2.2.1.toNat [])), (37, .bool false)] [(9, .box 75 [.int .i64 (st1.1.getD st1.2.2.2.1.toNat (0, 0)).1, .int .i64 (st1.1.getD st1.2.2.2.1.toNat (0, 0)).2]), (14, .arr 75 (.pair (.int .i64) (.int .i64)) st1.1), (15, .arr 25 (.sl (.int .i64)) st1.2.1), (16, .map true false (.pair (.int .i64) (.int .i64)) .bool st1.2.2.1), (1000, .box 75 [.int .i64 a1.1, .int .i64 a1.2]), (1001, .box 60 [.int .i64 a2.1, .int .i64 a2.2.1, .sl (.sl (.int .i64)) a2.2.2.1, .sl (.sl (.int .i64)) a2.2.2.2]), (1002, .box 60 [.int .i64 a3.1, .int .i64 a3.2.1, .sl (.sl (.int .i64)) a3.2.2.1, .sl (.sl (.int .i64)) a3.2.2.2])] ?_
        refine AW.cond (b := false) rfl (fun hb18 => by cases hb18) (fun _ => ?_)
        refine zk ?_
        refine zo ?_
        refine zB [(0, .fn (.yield lp) [] []), (2, .bp 1001 0), (3, .bp 1002 0), (5, .own 14), (6, .own 15), (7, .own 16), (8, .int .i64 st1.2.2.2.1), (9, .bp 9 0), (10, .sl (.int .i64) (st1.2.1.getD st1.2.2.2.1.toNat [])), (39, .int .i64 a2.2.1), (40, .int .i64 0)] [(9, .box 75 [.int .i64 (st1.1.getD st1.2.2.2.1.toNat (0, 0)).1, .int .i64 (st1.1.getD st1.2.2.2.1.toNat (0, 0)).2]), (14, .arr 75 (.pair (.int .i64) (.int .i64)) st1.1), (15, .arr 25 (.sl (.int .i64)) st1.2.1), (16, .map true false (.pair (.int .i64) (.int .i64)) .bool st1.2.2.1), (1000, .box 75 [.int .i64 a1.1, .int .i64 a1.2]), (1001, .box 60 [.int .i64 a2.1, .int .i64 a2.2.1, .sl (.sl (.int .i64)) a2.2.2.1, .sl (.sl (.int .i64)) a2.2.2.2]), (1002, .box 60 [.int .i64 a3.1, .int .i64 a3.2.1, .sl (.sl (.int .i64)) a3.2.2.1, .sl (.sl (.int .i64)) a3.2.2.2])] ?_
        refine AW.block ?_
        obtain ⟨rv23, hw19, ho20⟩ := Option.bind_eq_some_iff.1 h
        refine AW.loopO (spec_walk_1_b2 S R a2 a3 st1) (fun st2 => ⟨fr [(0, .fn (.yield lp) [] []), (2, .bp 1001 0), (3, .bp 1002 0), (5, .own 14), (6, .own 15), (7, .own 16), (8, .int .i64 st1.2.2.2.1), (9, .bp 9 0), (10, .sl (.int .i64) (st1.2.1.getD st1.2.2.2.1.toNat [])), (39, .int .i64 a2.2.1), (40, .int .i64 st2.2.2.2)], hpGet [(9, .box 75 [.int .i64 (st1.1.getD st1.2.2.2.1.toNat (0, 0)).1, .int .i64 (st1.1.getD st1.2.2.2.1.toNat (0, 0)).2]), (14, .arr 75 (.pair (.int .i64) (.int .i64)) st2.1), (15, .arr 25 (.sl (.int .i64)) st2.2.1), (16, .map true false (.pair (.int .i64) (.int .i64)) .bool st2.2.2.1), (1000, .box 75 [.int .i64 a1.1, .int .i64 a1.2]), (1001, .box 60 [.int .i64 a2.1, .int .i64 a2.2.1, .sl (.sl (.int .i64)) a2.2.2.1, .sl (.sl (.int .i64)) a2.2.2.2]), (1002, .box 60 [.int .i64 a3.1, .int .i64 a3.2.1, .sl (.sl (.int .i64)) a3.2.2.1, .sl (.sl (.int .i64)) a3.2.2.2])], (Γ s)⟩) (st1.1, st1.2.1, st1.2.2.1, 0) hw19 (zL [] [] []) ?_
        as_aux_lemma =>
         intro st2 x22 h hd21
         unfold spec_walk_1_b2 at h
         refine zo ?_
         refine zB [(0, .fn (.yield lp) [] []), (2, .bp 1001 0), (3, .bp 1002 0), (5, .own 14), (6, .own 15), (7, .own 16), (8, .int .i64 st1.2.2.2.1), (9, .bp 9 0), (10, .sl (.int .i64) (st1.2.1.getD st1.2.2.2.1.toNat [])), (39, .int .i64 a2.2.1), (40, .int .i64 st2.2.2.2), (41, .bool (decide (st2.2.2.2 < a2.2.1)))] [(9, .box 75 [.int .i64 (st1.1.getD st1.2.2.2.1.toNat (0, 0)).1, .int .i64 (st1.1.getD st1.2.2.2.1.toNat (0, 0)).2]), (14, .arr 75 (.pair (.int .i64) (.int .i64)) st2.1), (15, .arr 25 (.sl (.int .i64)) st2.2.1), (16, .map true false (.pair (.int .i64) (.int .i64)) .bool st2.2.2.1), (1000, .box 75 [.int .i64 a1.1, .int .i64 a1.2]), (1001, .box 60 [.int .i64 a2.1, .int .i64 a2.2.1, .sl (.sl (.int .i64)) a2.2.2.1, .sl (.sl (.int .i64)) a2.2.2.2]), (1002, .box 60 [.int .i64 a3.1, .int .i64 a3.2.1, .sl (.sl (.int .i64)) a3.2.2.1, .sl (.sl (.int .i64)) a3.2.2.2])] ?_
         refine AW.seq ?_
         refine zQ h (fun hb24 h => ?_) (fun hb24 h => ?_)
         ·refine zk ?_
          refine AW.seq ?_
          refine AW.block ?_
          refine zo ?_
          refine zB [(0, .fn (.yield lp) [] []), (2, .bp 1001 0), (3, .bp 1002 0), (5, .own 14), (6, .own 15), (7, .own 16), (8, .int .i64 st1.2.2.2.1), (9, .bp 9 0), (10, .sl (.int .i64) (st1.2.1.getD st1.2.2.2.1.toNat [])), (11, .int .i64 st2.2.2.2), (39, .int .i64 a2.2.1), (40, .int .i64 st2.2.2.2)] [(9, .box 75 [.int .i64 (st1.1.getD st1.2.2.2.1.toNat (0, 0)).1, .int .i64 (st1.1.getD st1.2.2.2.1.toNat (0, 0)).2]), (14, .arr 75 (.pair (.int .i64) (.int .i64)) st2.1), (15, .arr 25 (.sl (.int .i64)) st2.2.1), (16, .map true false (.pair (.int .i64) (.int .i64)) .bool st2.2.2.1), (1000, .box 75 [.int .i64 a1.1, .int .i64 a1.2]), (1001, .box 60 [.int .i64 a2.1, .int .i64 a2.2.1, .sl (.sl (.int .i64)) a2.2.2.1, .sl (.sl (.int .i64)) a2.2.2.2]), (1002, .box 60 [.int .i64 a3.1, .int .i64 a3.2.1, .sl (.sl (.int .i64)) a3.2.2.1, .sl (.sl (.int .i64)) a3.2.2.2])] ?_
          refine AW.seq ?_
          refine AW.draw tab_ok mixed_ok [(19, [12]), (20, [12])] [(0, [1001]), (1, [1001]), (2, [9, 999999]), (3, [9]), (4, []), (5, []), (6, []), (7, []), (8, []), (9, [1002]), (10, [1002]), (11, [9, 999999]), (12, [9]), (13, []), (14, []), (15, []), (16, []), (17, []), (18, []), (100020, [])] (by decide) (lex_fast (by kernel_rfl)) ?_
          as_aux_lemma =>
           obtain ⟨c26, h⟩ := ck_some.1 h
           obtain ⟨c27, h⟩ := ck_some.1 h
           refine adops_cut 6 (fun K' hK25 => ?_)
           try dsimp only [List.drop_succ_cons, List.drop_zero, List.take_succ_cons, List.take_zero]
           simp only [go_sem, hb8, hb24]
           repeat with_reducible refine zN ?_
           refine hK25 _ ?_
           as_aux_lemma =>
            obtain ⟨c29, h⟩ := ck_some.1 h
            obtain ⟨c30, h⟩ := ck_some.1 h
            refine adops_cut 6 (fun K' hK28 => ?_)
            try dsimp only [List.drop_succ_cons, List.drop_zero, List.take_succ_cons, List.take_zero]
            simp only [go_sem, hb8, hb24]
            repeat with_reducible refine zN ?_
            refine hK28 _ ?_
            as_aux_lemma =>
             obtain ⟨c32, h⟩ := ck_some.1 h
             obtain ⟨c33, h⟩ := ck_some.1 h
             obtain ⟨c34, h⟩ := ck_some.1 h
             obtain ⟨c35, h⟩ := ck_some.1 h
             refine adops_cut 6 (fun K' hK31 => ?_)
             try dsimp only [List.drop_succ_cons, List.drop_zero, List.take_succ_cons, List.take_zero]
             simp only [go_sem, hb8, hb24]
             repeat with_reducible refine zN ?_
             refine hK31 _ ?_
             as_aux_lemma =>
              refine adops_cut 3 (fun K' hK36 => ?_)
              try dsimp only [List.drop_succ_cons, List.drop_zero, List.take_succ_cons, List.take_zero]
              simp only [go_sem, hb8, hb24]
              repeat with_reducible refine zN ?_
              refine hK36 _ ?_
              refine adops_nil ?_
              refine athen_n ?_
              refine zV [(0, .fn (.yield lp) [] []), (2, .bp 1001 0), (3, .bp 1002 0), (5, .own 14), (6, .own 15), (7, .own 16), (8, .int .i64 st1.2.2.2.1), (9, .bp 9 0), (10, .sl (.int .i64) (st1.2.1.getD st1.2.2.2.1.toNat [])), (11, .int .i64 st2.2.2.2), (12, .bp 12 0), (39, .int .i64 a2.2.1), (40, .int .i64 st2.2.2.2)] [(9, .box 75 [.int .i64 (st1.1.getD st1.2.2.2.1.toNat (0, 0)).1, .int .i64 (st1.1.getD st1.2.2.2.1.toNat (0, 0)).2]), (12, .box 75 [.int .i64 ((a2.2.2.1.getD (st1.1.getD st1.2.2.2.1.toNat (0, 0)).1.toNat []).getD st2.2.2.2.toNat 0), .int .i64 ((a3.2.2.1.getD (st1.1.getD st1.2.2.2.1.toNat (0, 0)).2.toNat []).getD st2.2.2.2.toNat 0)]), (14, .arr 75 (.pair (.int .i64) (.int .i64)) st2.1), (15, .arr 25 (.sl (.int .i64)) st2.2.1), (16, .map true false (.pair (.int .i64) (.int .i64)) .bool st2.2.2.1), (1000, .box 75 [.int .i64 a1.1, .int .i64 a1.2]), (1001, .box 60 [.int .i64 a2.1, .int .i64 a2.2.1, .sl (.sl (.int .i64)) a2.2.2.1, .sl (.sl (.int .i64)) a2.2.2.2]), (1002, .box 60 [.int .i64 a3.1, .int .i64 a3.2.1, .sl (.sl (.int .i64)) a3.2.2.1, .sl (.sl (.int .i64)) a3.2.2.2])] (Γ s) ?_
              as_aux_lemma =>
               refine zo ?_
               refine zS 2 [(0, .fn (.yield lp) [] []), (2, .bp 1001 0), (3, .bp 1002 0), (5, .own 14), (6, .own 15), (7, .own 16), (8, .int .i64 st1.2.2.2.1), (9, .bp 9 0), (10, .sl (.int .i64) (st1.2.1.getD st1.2.2.2.1.toNat [])), (11, .int .i64 st2.2.2.2), (12, .bp 12 0), (39, .int .i64 a2.2.1), (40, .int .i64 st2.2.2.2), (62, .own 16), (63, .agg [.int .i64 ((a2.2.2.1.getD (st1.1.getD st1.2.2.2.1.toNat (0, 0)).1.toNat []).getD st2.2.2.2.toNat 0), .int .i64 ((a3.2.2.1.getD (st1.1.getD st1.2.2.2.1.toNat (0, 0)).2.toNat []).getD st2.2.2.2.toNat 0)])] [(9, .box 75 [.int .i64 (st1.1.getD st1.2.2.2.1.toNat (0, 0)).1, .int .i64 (st1.1.getD st1.2.2.2.1.toNat (0, 0)).2]), (12, .box 75 [.int .i64 ((a2.2.2.1.getD (st1.1.getD st1.2.2.2.1.toNat (0, 0)).1.toNat []).getD st2.2.2.2.toNat 0), .int .i64 ((a3.2.2.1.getD (st1.1.getD st1.2.2.2.1.toNat (0, 0)).2.toNat []).getD st2.2.2.2.toNat 0)]), (14, .arr 75 (.pair (.int .i64) (.int .i64)) st2.1), (15, .arr 25 (.sl (.int .i64)) st2.2.1), (16, .map true false (.pair (.int .i64) (.int .i64)) .bool st2.2.2.1), (1000, .box 75 [.int .i64 a1.1, .int .i64 a1.2]), (1001, .box 60 [.int .i64 a2.1, .int .i64 a2.2.1, .sl (.sl (.int .i64)) a2.2.2.1, .sl (.sl (.int .i64)) a2.2.2.2]), (1002, .box 60 [.int .i64 a3.1, .int .i64 a3.2.1, .sl (.sl (.int .i64)) a3.2.2.1, .sl (.sl (.int .i64)) a3.2.2.2])] ?_
               obtain ⟨c37, h⟩ := ck_some.1 h
               obtain ⟨c38, h⟩ := ck_some.1 h
               refine AO.lookup mapty_106 (by decide) rfl rfl rfl rfl (l := [.int .i64 ((a2.2.2.1.getD (st1.1.getD st1.2.2.2.1.toNat (0, 0)).1.toNat []).getD st2.2.2.2.toNat 0), .int .i64 ((a3.2.2.1.getD (st1.1.getD st1.2.2.2.1.toNat (0, 0)).2.toNat []).getD st2.2.2.2.toNat 0)]) (by (simp only [go_sem, hb8, hb24]) <;> (with_reducible and_intros) <;> first | assumption | rfl | omega | (unfold maxLen; omega)) (by first | rfl | (simp only [go_sem, hb8, hb24]) <;> (with_reducible and_intros) <;> first | assumption | rfl | omega | (unfold maxLen; omega)) (by (simp only [go_sem, hb8, hb24]) <;> (with_reducible and_intros) <;> first | assumption | rfl | omega | (unfold maxLen; omega)) ?_
               refine zT [(0, .fn (.yield lp) [] []), (2, .bp 1001 0), (3, .bp 1002 0), (5, .own 14), (6, .own 15), (7, .own 16), (8, .int .i64 st1.2.2.2.1), (9, .bp 9 0), (10, .sl (.int .i64) (st1.2.1.getD st1.2.2.2.1.toNat [])), (11, .int .i64 st2.2.2.2), (12, .bp 12 0), (39, .int .i64 a2.2.1), (40, .int .i64 st2.2.2.2), (64, .bool (mget false st2.2.2.1 (((a2.2.2.1.getD (st1.1.getD st1.2.2.2.1.toNat (0, 0)).1.toNat []).getD st2.2.2.2.toNat 0), ((a3.2.2.1.getD (st1.1.getD st1.2.2.2.1.toNat (0, 0)).2.toNat []).getD st2.2.2.2.toNat 0))))] [(9, .box 75 [.int .i64 (st1.1.getD st1.2.2.2.1.toNat (0, 0)).1, .int .i64 (st1.1.getD st1.2.2.2.1.toNat (0, 0)).2]), (12, .box 75 [.int .i64 ((a2.2.2.1.getD (st1.1.getD st1.2.2.2.1.toNat (0, 0)).1.toNat []).getD st2.2.2.2.toNat 0), .int .i64 ((a3.2.2.1.getD (st1.1.getD st1.2.2.2.1.toNat (0, 0)).2.toNat []).getD st2.2.2.2.toNat 0)]), (14, .arr 75 (.pair (.int .i64) (.int .i64)) st2.1), (15, .arr 25 (.sl (.int .i64)) st2.2.1), (16, .map true false (.pair (.int .i64) (.int .i64)) .bool st2.2.2.1), (1000, .box 75 [.int .i64 a1.1, .int .i64 a1.2]), (1001, .box 60 [.int .i64 a2.1, .int .i64 a2.2.1, .sl (.sl (.int .i64)) a2.2.2.1, .sl (.sl (.int .i64)) a2.2.2.2]), (1002, .box 60 [.int .i64 a3.1, .int .i64 a3.2.1, .sl (.sl (.int .i64)) a3.2.2.1, .sl (.sl (.int .i64)) a3.2.2.2])] (Γ s) ?_
               refine zB [(0, .fn (.yield lp) [] []), (2, .bp 1001 0), (3, .bp 1002 0), (5, .own 14), (6, .own 15), (7, .own 16), (8, .int .i64 st1.2.2.2.1), (9, .bp 9 0), (10, .sl (.int .i64) (st1.2.1.getD st1.2.2.2.1.toNat [])), (11, .int .i64 st2.2.2.2), (12, .bp 12 0), (39, .int .i64 a2.2.1), (40, .int .i64 st2.2.2.2), (65, .bool (!(mget false st2.2.2.1 (((a2.2.2.1.getD (st1.1.getD st1.2.2.2.1.toNat (0, 0)).1.toNat []).getD st2.2.2.2.toNat 0), ((a3.2.2.1.getD (st1.1.getD st1.2.2.2.1.toNat (0, 0)).2.toNat []).getD st2.2.2.2.toNat 0)))))] [(9, .box 75 [.int .i64 (st1.1.getD st1.2.2.2.1.toNat (0, 0)).1, .int .i64 (st1.1.getD st1.2.2.2.1.toNat (0, 0)).2]), (12, .box 75 [.int .i64 ((a2.2.2.1.getD (st1.1.getD st1.2.2.2.1.toNat (0, 0)).1.toNat []).getD st2.2.2.2.toNat 0), .int .i64 ((a3.2.2.1.getD (st1.1.getD st1.2.2.2.1.toNat (0, 0)).2.toNat []).getD st2.2.2.2.toNat 0)]), (14, .arr 75 (.pair (.int .i64) (.int .i64)) st2.1), (15, .arr 25 (.sl (.int .i64)) st2.2.1), (16, .map true false (.pair (.int .i64) (.int .i64)) .bool st2.2.2.1), (1000, .box 75 [.int .i64 a1.1, .int .i64 a1.2]), (1001, .box 60 [.int .i64 a2.1, .int .i64 a2.2.1, .sl (.sl (.int .i64)) a2.2.2.1, .sl (.sl (.int .i64)) a2.2.2.2]), (1002, .box 60 [.int .i64 a3.1, .int .i64 a3.2.1, .sl (.sl (.int .i64)) a3.2.2.1, .sl (.sl (.int .i64)) a3.2.2.2])] ?_
               refine zQ h (fun hb39 h => ?_) (fun hb39 h => ?_)
               ·refine zo ?_
                refine zS 2 [(0, .fn (.yield lp) [] []), (2, .bp 1001 0), (3, .bp 1002 0), (5, .own 14), (6, .own 15), (7, .own 16), (8, .int .i64 st1.2.2.2.1), (9, .bp 9 0), (10, .sl (.int .i64) (st1.2.1.getD st1.2.2.2.1.toNat [])), (11, .int .i64 st2.2.2.2), (12, .bp 12 0), (39, .int .i64 a2.2.1), (40, .int .i64 st2.2.2.2), (66, .own 16), (67, .agg [.int .i64 ((a2.2.2.1.getD (st1.1.getD st1.2.2.2.1.toNat (0, 0)).1.toNat []).getD st2.2.2.2.toNat 0), .int .i64 ((a3.2.2.1.getD (st1.1.getD st1.2.2.2.1.toNat (0, 0)).2.toNat []).getD st2.2.2.2.toNat 0)])] [(9, .box 75 [.int .i64 (st1.1.getD st1.2.2.2.1.toNat (0, 0)).1, .int .i64 (st1.1.getD st1.2.2.2.1.toNat (0, 0)).2]), (12, .box 75 [.int .i64 ((a2.2.2.1.getD (st1.1.getD st1.2.2.2.1.toNat (0, 0)).1.toNat []).getD st2.2.2.2.toNat 0), .int .i64 ((a3.2.2.1.getD (st1.1.getD st1.2.2.2.1.toNat (0, 0)).2.toNat []).getD st2.2.2.2.toNat 0)]), (14, .arr 75 (.pair (.int .i64) (.int .i64)) st2.1), (15, .arr 25 (.sl (.int .i64)) st2.2.1), (16, .map true false (.pair (.int .i64) (.int .i64)) .bool st2.2.2.1), (1000, .box 75 [.int .i64 a1.1, .int .i64 a1.2]), (1001, .box 60 [.int .i64 a2.1, .int .i64 a2.2.1, .sl (.sl (.int .i64)) a2.2.2.1, .sl (.sl (.int .i64)) a2.2.2.2]), (1002, .box 60 [.int .i64 a3.1, .int .i64 a3.2.1, .sl (.sl (.int .i64)) a3.2.2.1, .sl (.sl (.int .i64)) a3.2.2.2])] ?_
                obtain ⟨c40, h⟩ := ck_some.1 h
                obtain ⟨c41, h⟩ := ck_some.1 h
                refine AO.mapPut mapty_106 (by decide) rfl (.inl rfl) rfl rfl (l := [.int .i64 ((a2.2.2.1.getD (st1.1.getD st1.2.2.2.1.toNat (0, 0)).1.toNat []).getD st2.2.2.2.toNat 0), .int .i64 ((a3.2.2.1.getD (st1.1.getD st1.2.2.2.1.toNat (0, 0)).2.toNat []).getD st2.2.2.2.toNat 0)]) (by (simp only [go_sem, hb8, hb24, hb39]) <;> (with_reducible and_intros) <;> first | assumption | rfl | omega | (unfold maxLen; omega)) (by first | rfl | (simp only [go_sem, hb8, hb24, hb39]) <;> (with_reducible and_intros) <;> first | assumption | rfl | omega | (unfold maxLen; omega)) (by (simp only [go_sem, hb8, hb24, hb39]) <;> (with_reducible and_intros) <;> first | assumption | rfl | omega | (unfold maxLen; omega)) (lv := [.bool true]) (by (simp only [go_sem, hb8, hb24, hb39]) <;> (with_reducible and_intros) <;> first | assumption | rfl | omega | (unfold maxLen; omega)) (by first | rfl | (simp only [go_sem, hb8, hb24, hb39]) <;> (with_reducible and_intros) <;> first | assumption | rfl | omega | (unfold maxLen; omega)) ?_
                refine zT [(0, .fn (.yield lp) [] []), (2, .bp 1001 0), (3, .bp 1002 0), (5, .own 14), (6, .own 15), (7, .own 16), (8, .int .i64 st1.2.2.2.1), (9, .bp 9 0), (10, .sl (.int .i64) (st1.2.1.getD st1.2.2.2.1.toNat [])), (11, .int .i64 st2.2.2.2), (12, .bp 12 0), (39, .int .i64 a2.2.1), (40, .int .i64 st2.2.2.2)] [(9, .box 75 [.int .i64 (st1.1.getD st1.2.2.2.1.toNat (0, 0)).1, .int .i64 (st1.1.getD st1.2.2.2.1.toNat (0, 0)).2]), (12, .box 75 [.int .i64 ((a2.2.2.1.getD (st1.1.getD st1.2.2.2.1.toNat (0, 0)).1.toNat []).getD st2.2.2.2.toNat 0), .int .i64 ((a3.2.2.1.getD (st1.1.getD st1.2.2.2.1.toNat (0, 0)).2.toNat []).getD st2.2.2.2.toNat 0)]), (14, .arr 75 (.pair (.int .i64) (.int .i64)) st2.1), (15, .arr 25 (.sl (.int .i64)) st2.2.1), (16, .map true false (.pair (.int .i64) (.int .i64)) .bool (mput st2.2.2.1 (((a2.2.2.1.getD (st1.1.getD st1.2.2.2.1.toNat (0, 0)).1.toNat []).getD st2.2.2.2.toNat 0), ((a3.2.2.1.getD (st1.1.getD st1.2.2.2.1.toNat (0, 0)).2.toNat []).getD st2.2.2.2.toNat 0)) true)), (1000, .box 75 [.int .i64 a1.1, .int .i64 a1.2]), (1001, .box 60 [.int .i64 a2.1, .int .i64 a2.2.1, .sl (.sl (.int .i64)) a2.2.2.1, .sl (.sl (.int .i64)) a2.2.2.2]), (1002, .box 60 [.int .i64 a3.1, .int .i64 a3.2.1, .sl (.sl (.int .i64)) a3.2.2.1, .sl (.sl (.int .i64)) a3.2.2.2])] (Γ s) ?_
                refine zB [(0, .fn (.yield lp) [] []), (2, .bp 1001 0), (3, .bp 1002 0), (5, .own 14), (6, .own 15), (7, .own 16), (8, .int .i64 st1.2.2.2.1), (9, .bp 9 0), (10, .sl (.int .i64) (st1.2.1.getD st1.2.2.2.1.toNat [])), (11, .int .i64 st2.2.2.2), (12, .bp 12 0), (39, .int .i64 a2.2.1), (40, .int .i64 st2.2.2.2)] [(9, .box 75 [.int .i64 (st1.1.getD st1.2.2.2.1.toNat (0, 0)).1, .int .i64 (st1.1.getD st1.2.2.2.1.toNat (0, 0)).2]), (12, .box 75 [.int .i64 ((a2.2.2.1.getD (st1.1.getD st1.2.2.2.1.toNat (0, 0)).1.toNat []).getD st2.2.2.2.toNat 0), .int .i64 ((a3.2.2.1.getD (st1.1.getD st1.2.2.2.1.toNat (0, 0)).2.toNat []).getD st2.2.2.2.toNat 0)]), (14, .arr 75 (.pair (.int .i64) (.int .i64)) st2.1), (15, .arr 25 (.sl (.int .i64)) st2.2.1), (16, .map true false (.pair (.int .i64) (.int .i64)) .bool (mput st2.2.2.1 (((a2.2.2.1.getD (st1.1.getD st1.2.2.2.1.toNat (0, 0)).1.toNat []).getD st2.2.2.2.toNat 0), ((a3.2.2.1.getD (st1.1.getD st1.2.2.2.1.toNat (0, 0)).2.toNat []).getD st2.2.2.2.toNat 0)) true)), (1000, .box 75 [.int .i64 a1.1, .int .i64 a1.2]), (1001, .box 60 [.int .i64 a2.1, .int .i64 a2.2.1, .sl (.sl (.int .i64)) a2.2.2.1, .sl (.sl (.int .i64)) a2.2.2.2]), (1002, .box 60 [.int .i64 a3.1, .int .i64 a3.2.1, .sl (.sl (.int .i64)) a3.2.2.1, .sl (.sl (.int .i64)) a3.2.2.2])] ?_
                refine zo ?_
                obtain ⟨c42, h⟩ := ck_some.1 h
                refine zB [(0, .fn (.yield lp) [] []), (2, .bp 1001 0), (3, .bp 1002 0), (5, .own 71), (6, .own 15), (7, .own 16), (8, .int .i64 st1.2.2.2.1), (9, .bp 9 0), (10, .sl (.int .i64) (st1.2.1.getD st1.2.2.2.1.toNat [])), (11, .int .i64 st2.2.2.2), (39, .int .i64 a2.2.1), (40, .int .i64 st2.2.2.2)] [(9, .box 75 [.int .i64 (st1.1.getD st1.2.2.2.1.toNat (0, 0)).1, .int .i64 (st1.1.getD st1.2.2.2.1.toNat (0, 0)).2]), (15, .arr 25 (.sl (.int .i64)) st2.2.1), (16, .map true false (.pair (.int .i64) (.int .i64)) .bool (mput st2.2.2.1 (((a2.2.2.1.getD (st1.1.getD st1.2.2.2.1.toNat (0, 0)).1.toNat []).getD st2.2.2.2.toNat 0), ((a3.2.2.1.getD (st1.1.getD st1.2.2.2.1.toNat (0, 0)).2.toNat []).getD st2.2.2.2.toNat 0)) true)), (71, .arr 75 (.pair (.int .i64) (.int .i64)) (st2.1 ++ [(((a2.2.2.1.getD (st1.1.getD st1.2.2.2.1.toNat (0, 0)).1.toNat []).getD st2.2.2.2.toNat 0), ((a3.2.2.1.getD (st1.1.getD st1.2.2.2.1.toNat (0, 0)).2.toNat []).getD st2.2.2.2.toNat 0))])), (1000, .box 75 [.int .i64 a1.1, .int .i64 a1.2]), (1001, .box 60 [.int .i64 a2.1, .int .i64 a2.2.1, .sl (.sl (.int .i64)) a2.2.2.1, .sl (.sl (.int .i64)) a2.2.2.2]), (1002, .box 60 [.int .i64 a3.1, .int .i64 a3.2.1, .sl (.sl (.int .i64)) a3.2.2.1, .sl (.sl (.int .i64)) a3.2.2.2])] ?_
                refine AW.ops ?_
                refine zS 3 [(0, .fn (.yield lp) [] []), (2, .bp 1001 0), (3, .bp 1002 0), (5, .own 71), (7, .own 16), (8, .int .i64 st1.2.2.2.1), (9, .bp 9 0), (10, .sl (.int .i64) (st1.2.1.getD st1.2.2.2.1.toNat [])), (39, .int .i64 a2.2.1), (40, .int .i64 st2.2.2.2), (72, .own 15), (73, .sl (.int .i64) (st1.2.1.getD st1.2.2.2.1.toNat [])), (74, .int .i64 st2.2.2.2)] [(9, .box 75 [.int .i64 (st1.1.getD st1.2.2.2.1.toNat (0, 0)).1, .int .i64 (st1.1.getD st1.2.2.2.1.toNat (0, 0)).2]), (15, .arr 25 (.sl (.int .i64)) st2.2.1), (16, .map true false (.pair (.int .i64) (.int .i64)) .bool (mput st2.2.2.1 (((a2.2.2.1.getD (st1.1.getD st1.2.2.2.1.toNat (0, 0)).1.toNat []).getD st2.2.2.2.toNat 0), ((a3.2.2.1.getD (st1.1.getD st1.2.2.2.1.toNat (0, 0)).2.toNat []).getD st2.2.2.2.toNat 0)) true)), (71, .arr 75 (.pair (.int .i64) (.int .i64)) (st2.1 ++ [(((a2.2.2.1.getD (st1.1.getD st1.2.2.2.1.toNat (0, 0)).1.toNat []).getD st2.2.2.2.toNat 0), ((a3.2.2.1.getD (st1.1.getD st1.2.2.2.1.toNat (0, 0)).2.toNat []).getD st2.2.2.2.toNat 0))])), (1000, .box 75 [.int .i64 a1.1, .int .i64 a1.2]), (1001, .box 60 [.int .i64 a2.1, .int .i64 a2.2.1, .sl (.sl (.int .i64)) a2.2.2.1, .sl (.sl (.int .i64)) a2.2.2.2]), (1002, .box 60 [.int .i64 a3.1, .int .i64 a3.2.1, .sl (.sl (.int .i64)) a3.2.2.1, .sl (.sl (.int .i64)) a3.2.2.2])] ?_
                obtain ⟨v0, hv43, h⟩ := Option.bind_eq_some_iff.1 h
                refine zC [] [] (hc_spec_longer (st1.2.1.getD st1.2.2.2.1.toNat []) st2.2.2.2 hv43) [(0, .fn (.yield lp) [] []), (2, .bp 1001 0), (3, .bp 1002 0), (5, .own 71), (7, .own 16), (8, .int .i64 st1.2.2.2.1), (9, .bp 9 0), (10, .sl (.int .i64) (st1.2.1.getD st1.2.2.2.1.toNat [])), (39, .int .i64 a2.2.1), (40, .int .i64 st2.2.2.2), (72, .own 15), (75, .own 85000)] [(9, .box 75 [.int .i64 (st1.1.getD st1.2.2.2.1.toNat (0, 0)).1, .int .i64 (st1.1.getD st1.2.2.2.1.toNat (0, 0)).2]), (15, .arr 25 (.sl (.int .i64)) st2.2.1), (16, .map true false (.pair (.int .i64) (.int .i64)) .bool (mput st2.2.2.1 (((a2.2.2.1.getD (st1.1.getD st1.2.2.2.1.toNat (0, 0)).1.toNat []).getD st2.2.2.2.toNat 0), ((a3.2.2.1.getD (st1.1.getD st1.2.2.2.1.toNat (0, 0)).2.toNat []).getD st2.2.2.2.toNat 0)) true)), (71, .arr 75 (.pair (.int .i64) (.int .i64)) (st2.1 ++ [(((a2.2.2.1.getD (st1.1.getD st1.2.2.2.1.toNat (0, 0)).1.toNat []).getD st2.2.2.2.toNat 0), ((a3.2.2.1.getD (st1.1.getD st1.2.2.2.1.toNat (0, 0)).2.toNat []).getD st2.2.2.2.toNat 0))])), (1000, .box 75 [.int .i64 a1.1, .int .i64 a1.2]), (1001, .box 60 [.int .i64 a2.1, .int .i64 a2.2.1, .sl (.sl (.int .i64)) a2.2.2.1, .sl (.sl (.int .i64)) a2.2.2.2]), (1002, .box 60 [.int .i64 a3.1, .int .i64 a3.2.1, .sl (.sl (.int .i64)) a3.2.2.1, .sl (.sl (.int .i64)) a3.2.2.2]), (85000, .arr 3 (.int .i64) v0)] ?_
                obtain ⟨c44, h⟩ := ck_some.1 h
                refine zA [(0, .fn (.yield lp) [] []), (2, .bp 1001 0), (3, .bp 1002 0), (5, .own 71), (6, .own 77), (7, .own 16), (8, .int .i64 st1.2.2.2.1), (9, .bp 9 0), (10, .sl (.int .i64) (st1.2.1.getD st1.2.2.2.1.toNat [])), (39, .int .i64 a2.2.1), (40, .int .i64 st2.2.2.2)] [(9, .box 75 [.int .i64 (st1.1.getD st1.2.2.2.1.toNat (0, 0)).1, .int .i64 (st1.1.getD st1.2.2.2.1.toNat (0, 0)).2]), (16, .map true false (.pair (.int .i64) (.int .i64)) .bool (mput st2.2.2.1 (((a2.2.2.1.getD (st1.1.getD st1.2.2.2.1.toNat (0, 0)).1.toNat []).getD st2.2.2.2.toNat 0), ((a3.2.2.1.getD (st1.1.getD st1.2.2.2.1.toNat (0, 0)).2.toNat []).getD st2.2.2.2.toNat 0)) true)), (71, .arr 75 (.pair (.int .i64) (.int .i64)) (st2.1 ++ [(((a2.2.2.1.getD (st1.1.getD st1.2.2.2.1.toNat (0, 0)).1.toNat []).getD st2.2.2.2.toNat 0), ((a3.2.2.1.getD (st1.1.getD st1.2.2.2.1.toNat (0, 0)).2.toNat []).getD st2.2.2.2.toNat 0))])), (77, .arr 25 (.sl (.int .i64)) (st2.2.1 ++ [v0])), (1000, .box 75 [.int .i64 a1.1, .int .i64 a1.2]), (1001, .box 60 [.int .i64 a2.1, .int .i64 a2.2.1, .sl (.sl (.int .i64)) a2.2.2.1, .sl (.sl (.int .i64)) a2.2.2.2]), (1002, .box 60 [.int .i64 a3.1, .int .i64 a3.2.1, .sl (.sl (.int .i64)) a3.2.2.1, .sl (.sl (.int .i64)) a3.2.2.2])] ?_
                refine ablock_n ?_
                refine athen_n ?_
                refine AW.ops ?_
                obtain ⟨c45, h⟩ := ck_some.1 h
                refine zA [(0, .fn (.yield lp) [] []), (2, .bp 1001 0), (3, .bp 1002 0), (5, .own 71), (6, .own 77), (7, .own 16), (8, .int .i64 st1.2.2.2.1), (9, .bp 9 0), (10, .sl (.int .i64) (st1.2.1.getD st1.2.2.2.1.toNat [])), (39, .int .i64 a2.2.1), (40, .int .i64 (st2.2.2.2 + 1))] [(9, .box 75 [.int .i64 (st1.1.getD st1.2.2.2.1.toNat (0, 0)).1, .int .i64 (st1.1.getD st1.2.2.2.1.toNat (0, 0)).2]), (16, .map true false (.pair (.int .i64) (.int .i64)) .bool (mput st2.2.2.1 (((a2.2.2.1.getD (st1.1.getD st1.2.2.2.1.toNat (0, 0)).1.toNat []).getD st2.2.2.2.toNat 0), ((a3.2.2.1.getD (st1.1.getD st1.2.2.2.1.toNat (0, 0)).2.toNat []).getD st2.2.2.2.toNat 0)) true)), (71, .arr 75 (.pair (.int .i64) (.int .i64)) (st2.1 ++ [(((a2.2.2.1.getD (st1.1.getD st1.2.2.2.1.toNat (0, 0)).1.toNat []).getD st2.2.2.2.toNat 0), ((a3.2.2.1.getD (st1.1.getD st1.2.2.2.1.toNat (0, 0)).2.toNat []).getD st2.2.2.2.toNat 0))])), (77, .arr 25 (.sl (.int .i64)) (st2.2.1 ++ [v0])), (1000, .box 75 [.int .i64 a1.1, .int .i64 a1.2]), (1001, .box 60 [.int .i64 a2.1, .int .i64 a2.2.1, .sl (.sl (.int .i64)) a2.2.2.1, .sl (.sl (.int .i64)) a2.2.2.2]), (1002, .box 60 [.int .i64 a3.1, .int .i64 a3.2.1, .sl (.sl (.int .i64)) a3.2.2.1, .sl (.sl (.int .i64)) a3.2.2.2])] ?_
                obtain rfl := Option.some.inj h
                exact ⟨_, rfl, zL [] [] [(14, 71), (15, 77)]⟩
               ·refine zm ?_
                refine athen_n ?_
                refine AW.ops ?_
                obtain ⟨c46, h⟩ := ck_some.1 h
                refine zA [(0, .fn (.yield lp) [] []), (2, .bp 1001 0), (3, .bp 1002 0), (5, .own 14), (6, .own 15), (7, .own 16), (8, .int .i64 st1.2.2.2.1), (9, .bp 9 0), (10, .sl (.int .i64) (st1.2.1.getD st1.2.2.2.1.toNat [])), (39, .int .i64 a2.2.1), (40, .int .i64 (st2.2.2.2 + 1))] [(9, .box 75 [.int .i64 (st1.1.getD st1.2.2.2.1.toNat (0, 0)).1, .int .i64 (st1.1.getD st1.2.2.2.1.toNat (0, 0)).2]), (14, .arr 75 (.pair (.int .i64) (.int .i64)) st2.1), (15, .arr 25 (.sl (.int .i64)) st2.2.1), (16, .map true false (.pair (.int .i64) (.int .i64)) .bool st2.2.2.1), (1000, .box 75 [.int .i64 a1.1, .int .i64 a1.2]), (1001, .box 60 [.int .i64 a2.1, .int .i64 a2.2.1, .sl (.sl (.int .i64)) a2.2.2.1, .sl (.sl (.int .i64)) a2.2.2.2]), (1002, .box 60 [.int .i64 a3.1, .int .i64 a3.2.1, .sl (.sl (.int .i64)) a3.2.2.1, .sl (.sl (.int .i64)) a3.2.2.2])] ?_
                obtain rfl := Option.some.inj h
                exact ⟨_, rfl, zL [] [] []⟩
         ·refine AW.exit ?_
          refine athen_e ?_
          obtain rfl := Option.some.inj h
          rw [← hd21 _ rfl] at ho20
          have h := ho20
          refine athen_e ?_
          refine ablock_s ?_
          refine ablock_n ?_
          refine athen_n ?_
          exact AW.weaken (zL [] [] []) (hk_spec_walk_1_k1 _ h)
       | done e =>
        try simp only at h
        refine zT [(0, .fn (.yield lp) [] []), (2, .bp 1001 0), (3, .bp 1002 0), (5, .own 14), (6, .own 15), (7, .own 16), (8, .int .i64 st1.2.2.2.1), (9, .bp 9 0), (10, .sl (.int .i64) (st1.2.1.getD st1.2.2.2.1.toNat [])), (36, .bool false)] [(9, .box 75 [.int .i64 (st1.1.getD st1.2.2.2.1.toNat (0, 0)).1, .int .i64 (st1.1.getD st1.2.2.2.1.toNat (0, 0)).2]), (14, .arr 75 (.pair (.int .i64) (.int .i64)) st1.1), (15, .arr 25 (.sl (.int .i64)) st1.2.1), (16, .map true false (.pair (.int .i64) (.int .i64)) .bool st1.2.2.1), (1000, .box 75 [.int .i64 a1.1, .int .i64 a1.2]), (1001, .box 60 [.int .i64 a2.1, .int .i64 a2.2.1, .sl (.sl (.int .i64)) a2.2.2.1, .sl (.sl (.int .i64)) a2.2.2.2]), (1002, .box 60 [.int .i64 a3.1, .int .i64 a3.2.1, .sl (.sl (.int .i64)) a3.2.2.1, .sl (.sl (.int .i64)) a3.2.2.2])] (Γx e) ?_
        refine zB [(0, .fn (.yield lp) [] []), (2, .bp 1001 0), (3, .bp 1002 0), (5, .own 14), (6, .own 15), (7, .own 16), (8, .int .i64 st1.2.2.2.1), (9, .bp 9 0), (10, .sl (.int .i64) (st1.2.1.getD st1.2.2.2.1.toNat [])), (37, .bool true)] [(9, .box 75 [.int .i64 (st1.1.getD st1.2.2.2.1.toNat (0, 0)).1, .int .i64 (st1.1.getD st1.2.2.2.1.toNat (0, 0)).2]), (14, .arr 75 (.pair (.int .i64) (.int .i64)) st1.1), (15, .arr 25 (.sl (.int .i64)) st1.2.1), (16, .map true false (.pair (.int .i64) (.int .i64)) .bool st1.2.2.1), (1000, .box 75 [.int .i64 a1.1, .int .i64 a1.2]), (1001, .box 60 [.int .i64 a2.1, .int .i64 a2.2.1, .sl (.sl (.int .i64)) a2.2.2.1, .sl (.sl (.int .i64)) a2.2.2.2]), (1002, .box 60 [.int .i64 a3.1, .int .i64 a3.2.1, .sl (.sl (.int .i64)) a3.2.2.1, .sl (.sl (.int .i64)) a3.2.2.2])] ?_
        refine AW.cond (b := true) rfl (fun _ => ?_) (fun hb47 => by cases hb47)
        refine zr ?_
        refine ablock_r ?_
        refine athen_r ?_
        obtain rfl := Option.some.inj h
        rw [← hd5 _ rfl] at ho4
        have h := ho4
        try simp only at h
        refine athen_r ?_
        refine ablock_r ?_
        obtain rfl := Option.some.inj h
        exact rfl
  ·refine AW.exit ?_
   refine athen_e ?_
   obtain rfl := Option.some.inj h
   rw [← hd5 _ rfl] at ho4
   have h := ho4
   try simp only at h
   refine athen_e ?_
   refine ablock_s ?_
   obtain rfl := Option.some.inj h
   exact rfl

theorem hc_spec_apart (m : Int × Int × (List (List Int)) × (List (List Int))) (n : Int × Int × (List (List Int)) × (List (List Int))) (from0 : Int × Int) {r : (List Int) × Bool} (h : spec_apart m n from0 = some r) : HC Try.prog 69 [] [.agg [.int .i64 m.1, .int .i64 m.2.1, .sl (.sl (.int .i64)) m.2.2.1, .sl (.sl (.int .i64)) m.2.2.2], .agg [.int .i64 n.1, .int .i64 n.2.1, .sl (.sl (.int .i64)) n.2.2.1, .sl (.sl (.int .i64)) n.2.2.2], .agg [.int .i64 from0.1, .int .i64 from0.2]] [(2000, .arr 3 (.int .i64) r.1)] (.tup [.own 2000, .bool r.2]) := by
 unfold spec_apart at h
 refine zH Try.func69 [.cell 6 25, .cell 7 4] 45 ?_
 refine zo ?_
 refine zB [(3, .bp 3 0), (4, .bp 4 0), (5, .bp 5 0), (6, .bp 6 0), (7, .bp 7 0)] [(3, .box 60 [.int .i64 m.1, .int .i64 m.2.1, .sl (.sl (.int .i64)) m.2.2.1, .sl (.sl (.int .i64)) m.2.2.2]), (4, .box 60 [.int .i64 n.1, .int .i64 n.2.1, .sl (.sl (.int .i64)) n.2.2.1, .sl (.sl (.int .i64)) n.2.2.2]), (5, .box 75 [.int .i64 from0.1, .int .i64 from0.2]), (6, .box 25 [.cv (.slice none 0 0)]), (7, .box 4 [.bool false])] ?_
 refine AW.have1 (fun _ : Unit => spec_apart_k1 = some r) (fun _ => ⟨fr [(6, .bp 6 0), (7, .bp 7 0)], hpGet [(6, .box 25 [.cv (.slice none 0 0)]), (7, .box 4 [.bool false])], gt⟩) (fun _ h => ?_) (fun hk_spec_apart_k1 => ?_)
 ·as_aux_lemma =>
   unfold spec_apart_k1 at h
   refine zo ?_
   refine zB [(6, .bp 6 0), (7, .bp 7 0)] [(6, .box 25 [.cv (.slice none 0 0)]), (7, .box 4 [.bool false])] ?_
   refine AW.ret ?_
   obtain rfl := Option.some.inj h
   exact zR [] [2000] []
 ·refine AW.seq ?_
  refine zo ?_
  refine zS 3 [(3, .bp 3 0), (4, .bp 4 0), (6, .bp 6 0), (7, .bp 7 0), (11, .agg [.int .i64 m.1, .int .i64 m.2.1, .sl (.sl (.int .i64)) m.2.2.1, .sl (.sl (.int .i64)) m.2.2.2]), (12, .agg [.int .i64 n.1, .int .i64 n.2.1, .sl (.sl (.int .i64)) n.2.2.1, .sl (.sl (.int .i64)) n.2.2.2]), (13, .agg [.int .i64 from0.1, .int .i64 from0.2])] [(3, .box 60 [.int .i64 m.1, .int .i64 m.2.1, .sl (.sl (.int .i64)) m.2.2.1, .sl (.sl (.int .i64)) m.2.2.2]), (4, .box 60 [.int .i64 n.1, .int .i64 n.2.1, .sl (.sl (.int .i64)) n.2.2.1, .sl (.sl (.int .i64)) n.2.2.2]), (6, .box 25 [.cv (.slice none 0 0)]), (7, .box 4 [.bool false])] ?_
  obtain ⟨v0, hv1, h⟩ := Option.bind_eq_some_iff.1 h
  refine zC [] [] (hc_spec_walk m n from0 hv1) [(3, .bp 3 0), (4, .bp 4 0), (6, .bp 6 0), (7, .bp 7 0), (14, .fn (.func 100) [] [.bp 24000 0, .bp 24001 0, .bp 24002 0])] [(3, .box 60 [.int .i64 m.1, .int .i64 m.2.1, .sl (.sl (.int .i64)) m.2.2.1, .sl (.sl (.int .i64)) m.2.2.2]), (4, .box 60 [.int .i64 n.1, .int .i64 n.2.1, .sl (.sl (.int .i64)) n.2.2.1, .sl (.sl (.int .i64)) n.2.2.2]), (6, .box 25 [.cv (.slice none 0 0)]), (7, .box 4 [.bool false]), (24000, .box 75 [.int .i64 from0.1, .int .i64 from0.2]), (24001, .box 60 [.int .i64 m.1, .int .i64 m.2.1, .sl (.sl (.int .i64)) m.2.2.1, .sl (.sl (.int .i64)) m.2.2.2]), (24002, .box 60 [.int .i64 n.1, .int .i64 n.2.1, .sl (.sl (.int .i64)) n.2.2.1, .sl (.sl (.int .i64)) n.2.2.2])] ?_
  refine zB [(3, .bp 3 0), (4, .bp 4 0), (6, .bp 6 0), (7, .bp 7 0), (14, .fn (.func 100) [] [.bp 24000 0, .bp 24001 0, .bp 24002 0])] [(3, .box 60 [.int .i64 m.1, .int .i64 m.2.1, .sl (.sl (.int .i64)) m.2.2.1, .sl (.sl (.int .i64)) m.2.2.2]), (4, .box 60 [.int .i64 n.1, .int .i64 n.2.1, .sl (.sl (.int .i64)) n.2.2.1, .sl (.sl (.int .i64)) n.2.2.2]), (6, .box 25 [.cv (.slice none 0 0)]), (7, .box 4 [.bool false]), (24000, .box 75 [.int .i64 from0.1, .int .i64 from0.2]), (24001, .box 60 [.int .i64 m.1, .int .i64 m.2.1, .sl (.sl (.int .i64)) m.2.2.1, .sl (.sl (.int .i64)) m.2.2.2]), (24002, .box 60 [.int .i64 n.1, .int .i64 n.2.1, .sl (.sl (.int .i64)) n.2.2.1, .sl (.sl (.int .i64)) n.2.2.2])] ?_
  refine AW.block ?_
  obtain ⟨x2, hx3, h⟩ := Option.bind_eq_some_iff.1 h
  refine AW.weaken (s' := ⟨fr [(3, .bp 3 0), (4, .bp 4 0), (6, .bp 6 0), (7, .bp 7 0), (14, .fn (.func 100) [] [.bp 24000 0, .bp 24001 0, .bp 24002 0])], hpGet ([(24000, .box 75 [.int .i64 from0.1, .int .i64 from0.2]), (24001, .box 60 [.int .i64 m.1, .int .i64 m.2.1, .sl (.sl (.int .i64)) m.2.2.1, .sl (.sl (.int .i64)) m.2.2.2]), (24002, .box 60 [.int .i64 n.1, .int .i64 n.2.1, .sl (.sl (.int .i64)) n.2.2.1, .sl (.sl (.int .i64)) n.2.2.2])] ++ [(3, .box 60 [.int .i64 m.1, .int .i64 m.2.1, .sl (.sl (.int .i64)) m.2.2.1, .sl (.sl (.int .i64)) m.2.2.2]), (4, .box 60 [.int .i64 n.1, .int .i64 n.2.1, .sl (.sl (.int .i64)) n.2.2.1, .sl (.sl (.int .i64)) n.2.2.2]), (6, .box 25 [.cv (.slice none 0 0)]), (7, .box 4 [.bool false])]), gt⟩) (zL [] [] []) ?_
  refine AW.rangeF (R := (List Int)) (l0 := [(3, .bp 3 0), (4, .bp 4 0), (6, .bp 6 0), (7, .bp 7 0)]) (hI := [(24000, .box 75 [.int .i64 from0.1, .int .i64 from0.2]), (24001, .box 60 [.int .i64 m.1, .int .i64 m.2.1, .sl (.sl (.int .i64)) m.2.2.1, .sl (.sl (.int .i64)) m.2.2.2]), (24002, .box 60 [.int .i64 n.1, .int .i64 n.2.1, .sl (.sl (.int .i64)) n.2.2.1, .sl (.sl (.int .i64)) n.2.2.2])]) (h0 := fun (st1 : Unit) => [(3, .box 60 [.int .i64 m.1, .int .i64 m.2.1, .sl (.sl (.int .i64)) m.2.2.1, .sl (.sl (.int .i64)) m.2.2.2]), (4, .box 60 [.int .i64 n.1, .int .i64 n.2.1, .sl (.sl (.int .i64)) n.2.2.1, .sl (.sl (.int .i64)) n.2.2.2]), (6, .box 25 [.cv (.slice none 0 0)]), (7, .box 4 [.bool false])]) (gg := fun (st1 : Unit) => gt) (hx0 := (fun (r1 : (List Int)) => [(3, .box 60 [.int .i64 m.1, .int .i64 m.2.1, .sl (.sl (.int .i64)) m.2.2.1, .sl (.sl (.int .i64)) m.2.2.2]), (4, .box 60 [.int .i64 n.1, .int .i64 n.2.1, .sl (.sl (.int .i64)) n.2.2.1, .sl (.sl (.int .i64)) n.2.2.2]), (6, .box 25 [.own 53000]), (7, .box 4 [.bool true]), (53000, .arr 3 (.int .i64) r1)])) (gx := (fun (r1 : (List Int)) => gt)) (ex := (fun (r1 : (List Int)) => Exit.ret)) () [(24000, 1000), (24001, 1001), (24002, 1002)] [(1000, 24000), (1001, 24001), (1002, 24002)] [(3, 1900), (4, 1901), (6, 1902), (7, 1903)] [(1900, 3), (1901, 4), (1902, 6), (1903, 7)] (by decide) rfl (by first | exact (ic_spec_walk_1 from0 m n (spec_apart_y1 m n) () hx3) | simpa only [go_sem] using (ic_spec_walk_1 from0 m n (spec_apart_y1 m n) () hx3)) (by (simp only [go_sem]) <;> (with_reducible and_intros) <;> first | assumption | rfl | omega | (unfold maxLen; omega)) rfl rfl rfl (fun _ => rfl) rfl (fun _ => rfl) rfl (fun _ => rfl) (fun _ => rfl) (fun _ => rfl) (fun _ => rfl) rfl (fun _ _ => by first | rfl | (exact (hΓ _).trans (hΓ _).symm) | (exact (hΓx _).trans (hΓ _).symm)) (fun _ _ => by first | rfl | (exact (hΓ _).trans (hΓ _).symm) | (exact (hΓx _).trans (hΓ _).symm)) ?_ ?_
  ·intro lpy1 y1 st1 x4 h
   unfold spec_apart_y1 at h
   refine zV [(3, .bp 1900 0), (4, .bp 1901 0), (6, .bp 1902 0), (7, .bp 1903 0), (15, .agg [.int .i64 y1.1.1, .int .i64 y1.1.2]), (16, .sl (.int .i64) y1.2)] [(1900, .box 60 [.int .i64 m.1, .int .i64 m.2.1, .sl (.sl (.int .i64)) m.2.2.1, .sl (.sl (.int .i64)) m.2.2.2]), (1901, .box 60 [.int .i64 n.1, .int .i64 n.2.1, .sl (.sl (.int .i64)) n.2.2.1, .sl (.sl (.int .i64)) n.2.2.2]), (1902, .box 25 [.cv (.slice none 0 0)]), (1903, .box 4 [.bool false])] gt ?_
   refine zo ?_
   refine zB [(3, .bp 1900 0), (4, .bp 1901 0), (6, .bp 1902 0), (7, .bp 1903 0), (8, .bp 8 0), (16, .sl (.int .i64) y1.2)] [(8, .box 75 [.int .i64 y1.1.1, .int .i64 y1.1.2]), (1900, .box 60 [.int .i64 m.1, .int .i64 m.2.1, .sl (.sl (.int .i64)) m.2.2.1, .sl (.sl (.int .i64)) m.2.2.2]), (1901, .box 60 [.int .i64 n.1, .int .i64 n.2.1, .sl (.sl (.int .i64)) n.2.2.1, .sl (.sl (.int .i64)) n.2.2.2]), (1902, .box 25 [.cv (.slice none 0 0)]), (1903, .box 4 [.bool false])] ?_
   refine AW.ops ?_
   refine zA [(3, .bp 1900 0), (4, .bp 1901 0), (6, .bp 1902 0), (7, .bp 1903 0), (8, .bp 8 0), (9, .sl (.int .i64) y1.2)] [(8, .box 75 [.int .i64 y1.1.1, .int .i64 y1.1.2]), (1900, .box 60 [.int .i64 m.1, .int .i64 m.2.1, .sl (.sl (.int .i64)) m.2.2.1, .sl (.sl (.int .i64)) m.2.2.2]), (1901, .box 60 [.int .i64 n.1, .int .i64 n.2.1, .sl (.sl (.int .i64)) n.2.2.1, .sl (.sl (.int .i64)) n.2.2.2]), (1902, .box 25 [.cv (.slice none 0 0)]), (1903, .box 4 [.bool false])] ?_
   refine And.intro rfl ?_
   refine AW.block ?_
   refine zo ?_
   refine zB [(3, .bp 1900 0), (4, .bp 1901 0), (6, .bp 1902 0), (7, .bp 1903 0), (8, .bp 8 0), (9, .sl (.int .i64) y1.2), (18, .int .i64 m.2.1), (19, .int .i64 0)] [(8, .box 75 [.int .i64 y1.1.1, .int .i64 y1.1.2]), (1900, .box 60 [.int .i64 m.1, .int .i64 m.2.1, .sl (.sl (.int .i64)) m.2.2.1, .sl (.sl (.int .i64)) m.2.2.2]), (1901, .box 60 [.int .i64 n.1, .int .i64 n.2.1, .sl (.sl (.int .i64)) n.2.2.1, .sl (.sl (.int .i64)) n.2.2.2]), (1902, .box 25 [.cv (.slice none 0 0)]), (1903, .box 4 [.bool false])] ?_
   refine AW.block ?_
   obtain ⟨rv9, hw5, ho6⟩ := Option.bind_eq_some_iff.1 h
   refine AW.loopO (spec_apart_b2 m n y1) (fun st2 => ⟨fr [(3, .bp 1900 0), (4, .bp 1901 0), (6, .bp 1902 0), (7, .bp 1903 0), (8, .bp 8 0), (9, .sl (.int .i64) y1.2), (18, .int .i64 m.2.1), (19, .int .i64 st2)], hpGet [(8, .box 75 [.int .i64 y1.1.1, .int .i64 y1.1.2]), (1900, .box 60 [.int .i64 m.1, .int .i64 m.2.1, .sl (.sl (.int .i64)) m.2.2.1, .sl (.sl (.int .i64)) m.2.2.2]), (1901, .box 60 [.int .i64 n.1, .int .i64 n.2.1, .sl (.sl (.int .i64)) n.2.2.1, .sl (.sl (.int .i64)) n.2.2.2]), (1902, .box 25 [.cv (.slice none 0 0)]), (1903, .box 4 [.bool false])], gt⟩) 0 hw5 (zL [] [] []) ?_
   as_aux_lemma =>
    intro st2 x8 h hd7
    unfold spec_apart_b2 at h
    refine zo ?_
    refine zB [(3, .bp 1900 0), (4, .bp 1901 0), (6, .bp 1902 0), (7, .bp 1903 0), (8, .bp 8 0), (9, .sl (.int .i64) y1.2), (18, .int .i64 m.2.1), (19, .int .i64 st2), (20, .bool (decide (st2 < m.2.1)))] [(8, .box 75 [.int .i64 y1.1.1, .int .i64 y1.1.2]), (1900, .box 60 [.int .i64 m.1, .int .i64 m.2.1, .sl (.sl (.int .i64)) m.2.2.1, .sl (.sl (.int .i64)) m.2.2.2]), (1901, .box 60 [.int .i64 n.1, .int .i64 n.2.1, .sl (.sl (.int .i64)) n.2.2.1, .sl (.sl (.int .i64)) n.2.2.2]), (1902, .box 25 [.cv (.slice none 0 0)]), (1903, .box 4 [.bool false])] ?_
    refine AW.seq ?_
    refine zQ h (fun hb10 h => ?_) (fun hb10 h => ?_)
    ·refine zk ?_
     refine AW.seq ?_
     refine AW.block ?_
     refine zo ?_
     refine zB [(3, .bp 1900 0), (4, .bp 1901 0), (6, .bp 1902 0), (7, .bp 1903 0), (8, .bp 8 0), (9, .sl (.int .i64) y1.2), (10, .int .i64 st2), (18, .int .i64 m.2.1), (19, .int .i64 st2)] [(8, .box 75 [.int .i64 y1.1.1, .int .i64 y1.1.2]), (1900, .box 60 [.int .i64 m.1, .int .i64 m.2.1, .sl (.sl (.int .i64)) m.2.2.1, .sl (.sl (.int .i64)) m.2.2.2]), (1901, .box 60 [.int .i64 n.1, .int .i64 n.2.1, .sl (.sl (.int .i64)) n.2.2.1, .sl (.sl (.int .i64)) n.2.2.2]), (1902, .box 25 [.cv (.slice none 0 0)]), (1903, .box 4 [.bool false])] ?_
     refine AW.seq ?_
     refine AW.draw tab_ok mixed_ok [] [] (by decide) (lex_fast (by kernel_rfl)) ?_
     as_aux_lemma =>
      obtain ⟨c12, h⟩ := ck_some.1 h
      obtain ⟨c13, h⟩ := ck_some.1 h
      refine adops_cut 6 (fun K' hK11 => ?_)
      try dsimp only [List.drop_succ_cons, List.drop_zero, List.take_succ_cons, List.take_zero]
      simp only [go_sem, hb10]
      repeat with_reducible refine zN ?_
      refine hK11 _ ?_
      as_aux_lemma =>
       obtain ⟨c15, h⟩ := ck_some.1 h
       obtain ⟨c16, h⟩ := ck_some.1 h
       refine adops_cut 6 (fun K' hK14 => ?_)
       try dsimp only [List.drop_succ_cons, List.drop_zero, List.take_succ_cons, List.take_zero]
       simp only [go_sem, hb10]
       repeat with_reducible refine zN ?_
       refine hK14 _ ?_
       as_aux_lemma =>
        obtain ⟨c18, h⟩ := ck_some.1 h
        obtain ⟨c19, h⟩ := ck_some.1 h
        obtain ⟨c20, h⟩ := ck_some.1 h
        obtain ⟨c21, h⟩ := ck_some.1 h
        refine adops_cut 6 (fun K' hK17 => ?_)
        try dsimp only [List.drop_succ_cons, List.drop_zero, List.take_succ_cons, List.take_zero]
        simp only [go_sem, hb10]
        repeat with_reducible refine zN ?_
        refine hK17 _ ?_
        as_aux_lemma =>
         refine adops_cut 1 (fun K' hK22 => ?_)
         try dsimp only [List.drop_succ_cons, List.drop_zero, List.take_succ_cons, List.take_zero]
         simp only [go_sem, hb10]
         repeat with_reducible refine zN ?_
         refine hK22 _ ?_
         refine adops_nil ?_
         refine athen_n ?_
         refine zV [(3, .bp 1900 0), (4, .bp 1901 0), (6, .bp 1902 0), (7, .bp 1903 0), (8, .bp 8 0), (9, .sl (.int .i64) y1.2), (10, .int .i64 st2), (18, .int .i64 m.2.1), (19, .int .i64 st2), (40, .bool (!(decide (((m.2.2.2.getD y1.1.1.toNat []).getD st2.toNat 0) = ((n.2.2.2.getD y1.1.2.toNat []).getD st2.toNat 0)))))] [(8, .box 75 [.int .i64 y1.1.1, .int .i64 y1.1.2]), (1900, .box 60 [.int .i64 m.1, .int .i64 m.2.1, .sl (.sl (.int .i64)) m.2.2.1, .sl (.sl (.int .i64)) m.2.2.2]), (1901, .box 60 [.int .i64 n.1, .int .i64 n.2.1, .sl (.sl (.int .i64)) n.2.2.1, .sl (.sl (.int .i64)) n.2.2.2]), (1902, .box 25 [.cv (.slice none 0 0)]), (1903, .box 4 [.bool false])] gt ?_
         as_aux_lemma =>
          refine zQ h (fun hb23 h => ?_) (fun hb23 h => ?_)
          ·refine zo ?_
           refine zS 2 [(3, .bp 1900 0), (4, .bp 1901 0), (6, .bp 1902 0), (7, .bp 1903 0), (41, .sl (.int .i64) y1.2), (42, .int .i64 st2)] [(1900, .box 60 [.int .i64 m.1, .int .i64 m.2.1, .sl (.sl (.int .i64)) m.2.2.1, .sl (.sl (.int .i64)) m.2.2.2]), (1901, .box 60 [.int .i64 n.1, .int .i64 n.2.1, .sl (.sl (.int .i64)) n.2.2.1, .sl (.sl (.int .i64)) n.2.2.2]), (1902, .box 25 [.cv (.slice none 0 0)]), (1903, .box 4 [.bool false])] ?_
           obtain ⟨v0_2, hv24, h⟩ := Option.bind_eq_some_iff.1 h
           refine zC [] [] (hc_spec_longer y1.2 st2 hv24) [(3, .bp 1900 0), (4, .bp 1901 0), (6, .bp 1902 0), (7, .bp 1903 0), (43, .own 53000)] [(1900, .box 60 [.int .i64 m.1, .int .i64 m.2.1, .sl (.sl (.int .i64)) m.2.2.1, .sl (.sl (.int .i64)) m.2.2.2]), (1901, .box 60 [.int .i64 n.1, .int .i64 n.2.1, .sl (.sl (.int .i64)) n.2.2.1, .sl (.sl (.int .i64)) n.2.2.2]), (1902, .box 25 [.cv (.slice none 0 0)]), (1903, .box 4 [.bool false]), (53000, .arr 3 (.int .i64) v0_2)] ?_
           refine zB [(3, .bp 1900 0), (4, .bp 1901 0), (6, .bp 1902 0), (7, .bp 1903 0)] [(1900, .box 60 [.int .i64 m.1, .int .i64 m.2.1, .sl (.sl (.int .i64)) m.2.2.1, .sl (.sl (.int .i64)) m.2.2.2]), (1901, .box 60 [.int .i64 n.1, .int .i64 n.2.1, .sl (.sl (.int .i64)) n.2.2.1, .sl (.sl (.int .i64)) n.2.2.2]), (1902, .box 25 [.own 53000]), (1903, .box 4 [.bool true]), (53000, .arr 3 (.int .i64) v0_2)] ?_
           refine AW.ret ?_
           refine ablock_r ?_
           refine athen_r ?_
           obtain rfl := Option.some.inj h
           rw [← hd7 _ rfl] at ho6
           have h := ho6
           try simp only at h
           refine athen_r ?_
           refine ablock_r ?_
           refine ablock_r ?_
           obtain rfl := Option.some.inj h
           exact rpost_ret rfl rfl [] [] [] rfl (by (simp only [go_sem, hb10, hb23]) <;> (with_reducible and_intros) <;> first | assumption | rfl | omega | (unfold maxLen; omega))
          ·refine zm ?_
           refine athen_n ?_
           refine AW.ops ?_
           obtain ⟨c25, h⟩ := ck_some.1 h
           refine zA [(3, .bp 1900 0), (4, .bp 1901 0), (6, .bp 1902 0), (7, .bp 1903 0), (8, .bp 8 0), (9, .sl (.int .i64) y1.2), (18, .int .i64 m.2.1), (19, .int .i64 (st2 + 1))] [(8, .box 75 [.int .i64 y1.1.1, .int .i64 y1.1.2]), (1900, .box 60 [.int .i64 m.1, .int .i64 m.2.1, .sl (.sl (.int .i64)) m.2.2.1, .sl (.sl (.int .i64)) m.2.2.2]), (1901, .box 60 [.int .i64 n.1, .int .i64 n.2.1, .sl (.sl (.int .i64)) n.2.2.1, .sl (.sl (.int .i64)) n.2.2.2]), (1902, .box 25 [.cv (.slice none 0 0)]), (1903, .box 4 [.bool false])] ?_
           obtain rfl := Option.some.inj h
           exact ⟨_, rfl, zL [] [] []⟩
    ·refine AW.exit ?_
     refine athen_e ?_
     obtain rfl := Option.some.inj h
     rw [← hd7 _ rfl] at ho6
     have h := ho6
     try simp only at h
     refine athen_e ?_
     refine ablock_s ?_
     refine ablock_n ?_
     obtain rfl := Option.some.inj h
     exact rpost_next rfl [] [] [] rfl (by (simp only [go_sem, hb10]) <;> (with_reducible and_intros) <;> first | assumption | rfl | omega | (unfold maxLen; omega))
  ·cases x2 with
   | inl st1_2 =>
    try simp only at h
    refine ablock_n ?_
    refine athen_n ?_
    exact AW.weaken (zL [] [] []) (hk_spec_apart_k1 () h)
   | inr r1 =>
    try simp only at h
    refine ablock_r ?_
    refine athen_r ?_
    obtain rfl := Option.some.inj h
    exact zR [] [] [(2000, 53000)]

end Go.Proofs.Ytcgflignbhmoaaa
