/-
  Made by wip/tool/dc.py out of the print of the program: contracts.
-/
import Derived.Test.YtcgflignbhmoaaaQp
import Derived.Test.YtcgflignbhmoaaaShs
import Derived.Test.YtcgflignbhmoaaaAvd
import Derived.Test.YtcgflignbhmoaaaMgc2
namespace Go.Proofs.Ytcgflignbhmoaaa
open Go.RowKit

set_option linter.unusedSimpArgs false
set_option linter.unusedVariables false
set_option linter.constructorNameAsVariable false

set_option maxRecDepth 100000
set_option maxHeartbeats 2000000

theorem ic_spec_walk_1 {S R : Type} (a1 : Int × Int) (a2 : Int × Int × (List (List Int)) × (List (List Int))) (a3 : Int × Int × (List (List Int)) × (List (List Int))) (yl : (Int × Int) × (List Int) → S → Option (Step S R)) (s0 : S) {r : Sum S R} (h : spec_walk_1 S R a1 a2 a3 yl s0 = some r) : IC Try.prog 100 [(1000, .box 75 [.int .i64 a1.1, .int .i64 a1.2]), (1001, .box 60 [.int .i64 a2.1, .int .i64 a2.2.1, .sl (.sl (.int .i64)) a2.2.2.1, .sl (.sl (.int .i64)) a2.2.2.2]), (1002, .box 60 [.int .i64 a3.1, .int .i64 a3.2.1, .sl (.sl (.int .i64)) a3.2.2.1, .sl (.sl (.int .i64)) a3.2.2.2])] [.bp 1000 0, .bp 1001 0, .bp 1002 0] (fun (y : (Int × Int) × (List Int)) => [.agg [.int .i64 y.1.1, .int .i64 y.1.2], .sl (.int .i64) y.2]) yl s0 r := by
 unfold spec_walk_1 at h
 refine IC.of_body Try.func100 rfl (by kernel_rfl) rfl (nt := 79) rfl (by decide) (by simp) ?_
 intro Γ Γx lp hΓ hΓx hY
 refine zo ?_
 refine zB [(0, .fn (.yield lp) [] []), (1, .bp 1000 0), (2, .bp 1001 0), (3, .bp 1002 0), (5, .own 14)] [(14, .arr 75 (.pair (.int .i64) (.int .i64)) [a1]), (1000, .box 75 [.int .i64 a1.1, .int .i64 a1.2]), (1001, .box 60 [.int .i64 a2.1, .int .i64 a2.2.1, .sl (.sl (.int .i64)) a2.2.2.1, .sl (.sl (.int .i64)) a2.2.2.2]), (1002, .box 60 [.int .i64 a3.1, .int .i64 a3.2.1, .sl (.sl (.int .i64)) a3.2.2.1, .sl (.sl (.int .i64)) a3.2.2.2])] ?_
 refine zo ?_
 refine zB [(0, .fn (.yield lp) [] []), (1, .bp 1000 0), (2, .bp 1001 0), (3, .bp 1002 0), (5, .own 14), (6, .own 15)] [(14, .arr 75 (.pair (.int .i64) (.int .i64)) [a1]), (15, .arr 25 (.sl (.int .i64)) [[]]), (1000, .box 75 [.int .i64 a1.1, .int .i64 a1.2]), (1001, .box 60 [.int .i64 a2.1, .int .i64 a2.2.1, .sl (.sl (.int .i64)) a2.2.2.1, .sl (.sl (.int .i64)) a2.2.2.2]), (1002, .box 60 [.int .i64 a3.1, .int .i64 a3.2.1, .sl (.sl (.int .i64)) a3.2.2.1, .sl (.sl (.int .i64)) a3.2.2.2])] ?_
 refine zo ?_
 refine AO.makeMap (ak := true) (ae := false) (kt := (.pair (.int .i64) (.int .i64))) (vt := .bool) (by decide) (by decide) rfl rfl ?_
 refine zT [(0, .fn (.yield lp) [] []), (1, .bp 1000 0), (2, .bp 1001 0), (3, .bp 1002 0), (5, .own 14), (6, .own 15), (16, .own 16)] [(14, .arr 75 (.pair (.int .i64) (.int .i64)) [a1]), (15, .arr 25 (.sl (.int .i64)) [[]]), (16, .map true false (.pair (.int .i64) (.int .i64)) .bool []), (1000, .box 75 [.int .i64 a1.1, .int .i64 a1.2]), (1001, .box 60 [.int .i64 a2.1, .int .i64 a2.2.1, .sl (.sl (.int .i64)) a2.2.2.1, .sl (.sl (.int .i64)) a2.2.2.2]), (1002, .box 60 [.int .i64 a3.1, .int .i64 a3.2.1, .sl (.sl (.int .i64)) a3.2.2.1, .sl (.sl (.int .i64)) a3.2.2.2])] (Γ s0) ?_
 refine zS 1 [(0, .fn (.yield lp) [] []), (2, .bp 1001 0), (3, .bp 1002 0), (5, .own 14), (6, .own 15), (16, .own 16), (17, .agg [.int .i64 a1.1, .int .i64 a1.2])] [(14, .arr 75 (.pair (.int .i64) (.int .i64)) [a1]), (15, .arr 25 (.sl (.int .i64)) [[]]), (16, .map true false (.pair (.int .i64) (.int .i64)) .bool []), (1000, .box 75 [.int .i64 a1.1, .int .i64 a1.2]), (1001, .box 60 [.int .i64 a2.1, .int .i64 a2.2.1, .sl (.sl (.int .i64)) a2.2.2.1, .sl (.sl (.int .i64)) a2.2.2.2]), (1002, .box 60 [.int .i64 a3.1, .int .i64 a3.2.1, .sl (.sl (.int .i64)) a3.2.2.1, .sl (.sl (.int .i64)) a3.2.2.2])] ?_
 obtain ⟨c1, h⟩ := ck_some.1 h
 obtain ⟨c2, h⟩ := ck_some.1 h
 refine AO.mapPut mapty_106 (by decide) rfl (.inr rfl) rfl rfl (l := [.int .i64 a1.1, .int .i64 a1.2]) (by (simp only [go_sem]) <;> (with_reducible and_intros) <;> first | assumption | rfl | omega | (unfold maxLen; omega)) (by first | rfl | (simp only [go_sem]) <;> (with_reducible and_intros) <;> first | assumption | rfl | omega | (unfold maxLen; omega)) (by (simp only [go_sem]) <;> (with_reducible and_intros) <;> first | assumption | rfl | omega | (unfold maxLen; omega)) (lv := [.bool true]) (by (simp only [go_sem]) <;> (with_reducible and_intros) <;> first | assumption | rfl | omega | (unfold maxLen; omega)) (by first | rfl | (simp only [go_sem]) <;> (with_reducible and_intros) <;> first | assumption | rfl | omega | (unfold maxLen; omega)) ?_
 refine zT [(0, .fn (.yield lp) [] []), (2, .bp 1001 0), (3, .bp 1002 0), (5, .own 14), (6, .own 15), (16, .own 16)] [(14, .arr 75 (.pair (.int .i64) (.int .i64)) [a1]), (15, .arr 25 (.sl (.int .i64)) [[]]), (16, .map true false (.pair (.int .i64) (.int .i64)) .bool (mput [] a1 true)), (1000, .box 75 [.int .i64 a1.1, .int .i64 a1.2]), (1001, .box 60 [.int .i64 a2.1, .int .i64 a2.2.1, .sl (.sl (.int .i64)) a2.2.2.1, .sl (.sl (.int .i64)) a2.2.2.2]), (1002, .box 60 [.int .i64 a3.1, .int .i64 a3.2.1, .sl (.sl (.int .i64)) a3.2.2.1, .sl (.sl (.int .i64)) a3.2.2.2])] (Γ s0) ?_
 refine zB [(0, .fn (.yield lp) [] []), (2, .bp 1001 0), (3, .bp 1002 0), (5, .own 14), (6, .own 15), (7, .own 16)] [(14, .arr 75 (.pair (.int .i64) (.int .i64)) [a1]), (15, .arr 25 (.sl (.int .i64)) [[]]), (16, .map true false (.pair (.int .i64) (.int .i64)) .bool (mput [] a1 true)), (1000, .box 75 [.int .i64 a1.1, .int .i64 a1.2]), (1001, .box 60 [.int .i64 a2.1, .int .i64 a2.2.1, .sl (.sl (.int .i64)) a2.2.2.1, .sl (.sl (.int .i64)) a2.2.2.2]), (1002, .box 60 [.int .i64 a3.1, .int .i64 a3.2.1, .sl (.sl (.int .i64)) a3.2.2.1, .sl (.sl (.int .i64)) a3.2.2.2])] ?_
 refine zo ?_
 refine zB [(0, .fn (.yield lp) [] []), (2, .bp 1001 0), (3, .bp 1002 0), (5, .own 14), (6, .own 15), (7, .own 16), (8, .int .i64 0)] [(14, .arr 75 (.pair (.int .i64) (.int .i64)) [a1]), (15, .arr 25 (.sl (.int .i64)) [[]]), (16, .map true false (.pair (.int .i64) (.int .i64)) .bool (mput [] a1 true)), (1000, .box 75 [.int .i64 a1.1, .int .i64 a1.2]), (1001, .box 60 [.int .i64 a2.1, .int .i64 a2.2.1, .sl (.sl (.int .i64)) a2.2.2.1, .sl (.sl (.int .i64)) a2.2.2.2]), (1002, .box 60 [.int .i64 a3.1, .int .i64 a3.2.1, .sl (.sl (.int .i64)) a3.2.2.1, .sl (.sl (.int .i64)) a3.2.2.2])] ?_
 refine AW.block ?_
 obtain ⟨rv7, hw3, ho4⟩ := Option.bind_eq_some_iff.1 h
 refine AW.loopO (spec_walk_1_b1 S R a2 a3 yl) (fun st1 => ⟨fr [(0, .fn (.yield lp) [] []), (2, .bp 1001 0), (3, .bp 1002 0), (5, .own 14), (6, .own 15), (7, .own 16), (8, .int .i64 st1.2.2.2.1)], hpGet [(14, .arr 75 (.pair (.int .i64) (.int .i64)) st1.1), (15, .arr 25 (.sl (.int .i64)) st1.2.1), (16, .map true false (.pair (.int .i64) (.int .i64)) .bool st1.2.2.1), (1000, .box 75 [.int .i64 a1.1, .int .i64 a1.2]), (1001, .box 60 [.int .i64 a2.1, .int .i64 a2.2.1, .sl (.sl (.int .i64)) a2.2.2.1, .sl (.sl (.int .i64)) a2.2.2.2]), (1002, .box 60 [.int .i64 a3.1, .int .i64 a3.2.1, .sl (.sl (.int .i64)) a3.2.2.1, .sl (.sl (.int .i64)) a3.2.2.2])], (Γ st1.2.2.2.2)⟩) ([a1], [[]], (mput [] a1 true), 0, s0) hw3 (zL [] [] []) ?_
 as_aux_lemma =>
  intro st1 x6 h hd5
  unfold spec_walk_1_b1 at h
  refine AW.seq ?_
  refine zo ?_
  refine zB [(0, .fn (.yield lp) [] []), (2, .bp 1001 0), (3, .bp 1002 0), (5, .own 14), (6, .own 15), (7, .own 16), (8, .int .i64 st1.2.2.2.1), (22, .bool (decide (st1.2.2.2.1 < (st1.1.length : Int))))] [(14, .arr 75 (.pair (.int .i64) (.int .i64)) st1.1), (15, .arr 25 (.sl (.int .i64)) st1.2.1), (16, .map true false (.pair (.int .i64) (.int .i64)) .bool st1.2.2.1), (1000, .box 75 [.int .i64 a1.1, .int .i64 a1.2]), (1001, .box 60 [.int .i64 a2.1, .int .i64 a2.2.1, .sl (.sl (.int .i64)) a2.2.2.1, .sl (.sl (.int .i64)) a2.2.2.2]), (1002, .box 60 [.int .i64 a3.1, .int .i64 a3.2.1, .sl (.sl (.int .i64)) a3.2.2.1, .sl (.sl (.int .i64)) a3.2.2.2])] ?_
  refine zQ h (fun hb8 h => ?_) (fun hb8 h => ?_)
  ·refine zk ?_
   refine AW.have1 (fun b1 : (List (Int × Int)) × (List (List Int)) × (List ((Int × Int) × Bool)) × S => spec_walk_1_k1 S R st1 b1 = some x6) (fun b1 => ⟨fr [(0, .fn (.yield lp) [] []), (2, .bp 1001 0), (3, .bp 1002 0), (5, .own 14), (6, .own 15), (7, .own 16), (8, .int .i64 st1.2.2.2.1)], hpGet [(14, .arr 75 (.pair (.int .i64) (.int .i64)) b1.1), (15, .arr 25 (.sl (.int .i64)) b1.2.1), (16, .map true false (.pair (.int .i64) (.int .i64)) .bool b1.2.2.1), (1000, .box 75 [.int .i64 a1.1, .int .i64 a1.2]), (1001, .box 60 [.int .i64 a2.1, .int .i64 a2.2.1, .sl (.sl (.int .i64)) a2.2.2.1, .sl (.sl (.int .i64)) a2.2.2.2]), (1002, .box 60 [.int .i64 a3.1, .int .i64 a3.2.1, .sl (.sl (.int .i64)) a3.2.2.1, .sl (.sl (.int .i64)) a3.2.2.2])], (Γ b1.2.2.2)⟩) (fun b1 h => ?_) (fun hk_spec_walk_1_k1 => ?_)
   ·as_aux_lemma =>
     unfold spec_walk_1_k1 at h
     refine AW.ops ?_
     obtain ⟨c9, h⟩ := ck_some.1 h
     refine zA [(0, .fn (.yield lp) [] []), (2, .bp 1001 0), (3, .bp 1002 0), (5, .own 14), (6, .own 15), (7, .own 16), (8, .int .i64 (st1.2.2.2.1 + 1))] [(14, .arr 75 (.pair (.int .i64) (.int .i64)) b1.1), (15, .arr 25 (.sl (.int .i64)) b1.2.1), (16, .map true false (.pair (.int .i64) (.int .i64)) .bool b1.2.2.1), (1000, .box 75 [.int .i64 a1.1, .int .i64 a1.2]), (1001, .box 60 [.int .i64 a2.1, .int .i64 a2.2.1, .sl (.sl (.int .i64)) a2.2.2.1, .sl (.sl (.int .i64)) a2.2.2.2]), (1002, .box 60 [.int .i64 a3.1, .int .i64 a3.2.1, .sl (.sl (.int .i64)) a3.2.2.1, .sl (.sl (.int .i64)) a3.2.2.2])] ?_
     obtain rfl := Option.some.inj h
     exact ⟨_, rfl, zL [] [] []⟩
   ·refine AW.seq ?_
    refine AW.block ?_
    refine AW.seq ?_
    refine AW.draw tab_ok mixed_ok [(8, [9]), (9, [9])] [(0, [14]), (1, []), (2, [14]), (3, [14]), (4, [15]), (5, []), (6, [15]), (7, [15]), (100009, [])] (by decide) (lex_fast (by kernel_rfl)) ?_
    as_aux_lemma =>
     obtain ⟨c11, h⟩ := ck_some.1 h
     obtain ⟨c12, h⟩ := ck_some.1 h
     refine adops_cut 6 (fun K' hK10 => ?_)
     try dsimp only [List.drop_succ_cons, List.drop_zero, List.take_succ_cons, List.take_zero]
     simp only [go_sem, hb8]
     repeat with_reducible refine zN ?_
     refine hK10 _ ?_
     as_aux_lemma =>
      obtain ⟨c14, h⟩ := ck_some.1 h
      obtain ⟨c15, h⟩ := ck_some.1 h
      refine adops_cut 5 (fun K' hK13 => ?_)
      try dsimp only [List.drop_succ_cons, List.drop_zero, List.take_succ_cons, List.take_zero]
      simp only [go_sem, hb8]
      repeat with_reducible refine zN ?_
      refine hK13 _ ?_
      refine adops_nil ?_
      refine athen_n ?_
      refine zV [(0, .fn (.yield lp) [] []), (2, .bp 1001 0), (3, .bp 1002 0), (5, .own 14), (6, .own 15), (7, .own 16), (8, .int .i64 st1.2.2.2.1), (9, .bp 9 0), (10, .sl (.int .i64) (st1.2.1.getD st1.2.2.2.1.toNat []))] [(9, .box 75 [.int .i64 (st1.1.getD st1.2.2.2.1.toNat (0, 0)).1, .int .i64 (st1.1.getD st1.2.2.2.1.toNat (0, 0)).2]), (14, .arr 75 (.pair (.int .i64) (.int .i64)) st1.1), (15, .arr 25 (.sl (.int .i64)) st1.2.1), (16, .map true false (.pair (.int .i64) (.int .i64)) .bool st1.2.2.1), (1000, .box 75 [.int .i64 a1.1, .int .i64 a1.2]), (1001, .box 60 [.int .i64 a2.1, .int .i64 a2.2.1, .sl (.sl (.int .i64)) a2.2.2.1, .sl (.sl (.int .i64)) a2.2.2.2]), (1002, .box 60 [.int .i64 a3.1, .int .i64 a3.2.1, .sl (.sl (.int .i64)) a3.2.2.1, .sl (.sl (.int .i64)) a3.2.2.2])] (Γ st1.2.2.2.2) ?_
      as_aux_lemma =>
       refine AW.seq ?_
       refine zo ?_
       refine zS 3 [(0, .fn (.yield lp) [] []), (2, .bp 1001 0), (3, .bp 1002 0), (5, .own 14), (6, .own 15), (7, .own 16), (8, .int .i64 st1.2.2.2.1), (9, .bp 9 0), (10, .sl (.int .i64) (st1.2.1.getD st1.2.2.2.1.toNat [])), (33, .fn (.yield lp) [] []), (34, .agg [.int .i64 (st1.1.getD st1.2.2.2.1.toNat (0, 0)).1, .int .i64 (st1.1.getD st1.2.2.2.1.toNat (0, 0)).2]), (35, .sl (.int .i64) (st1.2.1.getD st1.2.2.2.1.toNat []))] [(9, .box 75 [.int .i64 (st1.1.getD st1.2.2.2.1.toNat (0, 0)).1, .int .i64 (st1.1.getD st1.2.2.2.1.toNat (0, 0)).2]), (14, .arr 75 (.pair (.int .i64) (.int .i64)) st1.1), (15, .arr 25 (.sl (.int .i64)) st1.2.1), (16, .map true false (.pair (.int .i64) (.int .i64)) .bool st1.2.2.1), (1000, .box 75 [.int .i64 a1.1, .int .i64 a1.2]), (1001, .box 60 [.int .i64 a2.1, .int .i64 a2.2.1, .sl (.sl (.int .i64)) a2.2.2.1, .sl (.sl (.int .i64)) a2.2.2.2]), (1002, .box 60 [.int .i64 a3.1, .int .i64 a3.2.1, .sl (.sl (.int .i64)) a3.2.2.1, .sl (.sl (.int .i64)) a3.2.2.2])] ?_
       obtain ⟨x16, hx17, h⟩ := Option.bind_eq_some_iff.1 h
       refine yield_op rfl rfl rfl (by decide) _ rfl hY hΓ hΓx ((st1.1.getD st1.2.2.2.1.toNat (0, 0)), (st1.2.1.getD st1.2.2.2.1.toNat [])) [] (by (simp only [go_sem, hb8]) <;> (with_reducible and_intros) <;> first | assumption | rfl | omega | (unfold maxLen; omega)) hx17 ?_
       cases x16 with
       | next s =>
        try simp only at h
        refine zT [(0, .fn (.yield lp) [] []), (2, .bp 1001 0), (3, .bp 1002 0), (5, .own 14), (6, .own 15), (7, .own 16), (8, .int .i64 st1.2.2.2.1), (9, .bp 9 0), (10, .sl (.int .i64) (st1.2.1.getD st1.2.2.2.1.toNat [])), (36, .bool true)] [(9, .box 75 [.int .i64 (st1.1.getD st1.2.2.2.1.toNat (0, 0)).1, .int .i64 (st1.1.getD st1.2.2.2.1.toNat (0, 0)).2]), (14, .arr 75 (.pair (.int .i64) (.int .i64)) st1.1), (15, .arr 25 (.sl (.int .i64)) st1.2.1), (16, .map true false (.pair (.int .i64) (.int .i64)) .bool st1.2.2.1), (1000, .box 75 [.int .i64 a1.1, .int .i64 a1.2]), (1001, .box 60 [.int .i64 a2.1, .int .i64 a2.2.1, .sl (.sl (.int .i64)) a2.2.2.1, .sl (.sl (.int .i64)) a2.2.2.2]), (1002, .box 60 [.int .i64 a3.1, .int .i64 a3.2.1, .sl (.sl (.int .i64)) a3.2.2.1, .sl (.sl (.int .i64)) a3.2.2.2])] (Γ s) ?_
        refine zB [(0, .fn (.yield lp) [] []), (2, .bp 1001 0), (3, .bp 1002 0), (5, .own 14), (6, .own 15), (7, .own 16), (8, .int .i64 st1.2.2.2.1), (9, .bp 9 0), (10, .sl (.int .i64) (st1.2.1.getD st1.2.2.2.1.toNat [])), (37, .bool false)] [(9, .box 75 [.int .i64 (st1.1.getD st1.2.2.2.1.toNat (0, 0)).1, .int .i64 (st1.1.getD st1.2.2.2.1.toNat (0, 0)).2]), (14, .arr 75 (.pair (.int .i64) (.int .i64)) st1.1), (15, .arr 25 (.sl (.int .i64)) st1.2.1), (16, .map true false (.pair (.int .i64) (.int .i64)) .bool st1.2.2.1), (1000, .box 75 [.int .i64 a1.1, .int .i64 a1.2]), (1001, .box 60 [.int .i64 a2.1, .int .i64 a2.2.1, .sl (.sl (.int .i64)) a2.2.2.1, .sl (.sl (.int .i64)) a2.2.2.2]), (1002, .box 60 [.int .i64 a3.1, .int .i64 a3.2.1, .sl (.sl (.int .i64)) a3.2.2.1, .sl (.sl (.int .i64)) a3.2.2.2])] ?_
        refine AW.cond (b := false) rfl (fun hb18 => by cases hb18) (fun _ => ?_)
        refine zk ?_
        refine zo ?_
        refine zB [(0, .fn (.yield lp) [] []), (2, .bp 1001 0), (3, .bp 1002 0), (5, .own 14), (6, .own 15), (7, .own 16), (8, .int .i64 st1.2.2.2.1), (9, .bp 9 0), (10, .sl (.int .i64) (st1.2.1.getD st1.2.2.2.1.toNat [])), (39, .int .i64 a2.2.1), (40, .int .i64 0)] [(9, .box 75 [.int .i64 (st1.1.getD st1.2.2.2.1.toNat (0, 0)).1, .int .i64 (st1.1.getD st1.2.2.2.1.toNat (0, 0)).2]), (14, .arr 75 (.pair (.int .i64) (.int .i64)) st1.1), (15, .arr 25 (.sl (.int .i64)) st1.2.1), (16, .map true false (.pair (.int .i64) (.int .i64)) .bool st1.2.2.1), (1000, .box 75 [.int .i64 a1.1, .int .i64 a1.2]), (1001, .box 60 [.int .i64 a2.1, .int .i64 a2.2.1, .sl (.sl (.int .i64)) a2.2.2.1, .sl (.sl (.int .i64)) a2.2.2.2]), (1002, .box 60 [.int .i64 a3.1, .int .i64 a3.2.1, .sl (.sl (.int .i64)) a3.2.2.1, .sl (.sl (.int .i64)) a3.2.2.2])] ?_
        refine AW.block ?_
        obtain ⟨rv23, hw19, ho20⟩ := Option.bind_eq_some_iff.1 h
        refine AW.loopO (spec_walk_1_b2 S R a2 a3 st1) (fun st2 => ⟨fr [(0, .fn (.yield lp) [] []), (2, .bp 1001 0), (3, .bp 1002 0), (5, .own 14), (6, .own 15), (7, .own 16), (8, .int .i64 st1.2.2.2.1), (9, .bp 9 0), (10, .sl (.int .i64) (st1.2.1.getD st1.2.2.2.1.toNat [])), (39, .int .i64 a2.2.1), (40, .int .i64 st2.2.2.2)], hpGet [(9, .box 75 [.int .i64 (st1.1.getD st1.2.2.2.1.toNat (0, 0)).1, .int .i64 (st1.1.getD st1.2.2.2.1.toNat (0, 0)).2]), (14, .arr 75 (.pair (.int .i64) (.int .i64)) st2.1), (15, .arr 25 (.sl (.int .i64)) st2.2.1), (16, .map true false (.pair (.int .i64) (.int .i64)) .bool st2.2.2.1), (1000, .box 75 [.int .i64 a1.1, .int .i64 a1.2]), (1001, .box 60 [.int .i64 a2.1, .int .i64 a2.2.1, .sl (.sl (.int .i64)) a2.2.2.1, .sl (.sl (.int .i64)) a2.2.2.2]), (1002, .box 60 [.int .i64 a3.1, .int .i64 a3.2.1, .sl (.sl (.int .i64)) a3.2.2.1, .sl (.sl (.int .i64)) a3.2.2.2])], (Γ s)⟩) (st1.1, st1.2.1, st1.2.2.1, 0) hw19 (zL [] [] []) ?_
        as_aux_lemma =>
         intro st2 x22 h hd21
         unfold spec_walk_1_b2 at h
         refine zo ?_
         refine zB [(0, .fn (.yield lp) [] []), (2, .bp 1001 0), (3, .bp 1002 0), (5, .own 14), (6, .own 15), (7, .own 16), (8, .int .i64 st1.2.2.2.1), (9, .bp 9 0), (10, .sl (.int .i64) (st1.2.1.getD st1.2.2.2.1.toNat [])), (39, .int .i64 a2.2.1), (40, .int .i64 st2.2.2.2), (41, .bool (decide (st2.2.2.2 < a2.2.1)))] [(9, .box 75 [.int .i64 (st1.1.getD st1.2.2.2.1.toNat (0, 0)).1, .int .i64 (st1.1.getD st1.2.2.2.1.toNat (0, 0)).2]), (14, .arr 75 (.pair (.int .i64) (.int .i64)) st2.1), (15, .arr 25 (.sl (.int .i64)) st2.2.1), (16, .map true false (.pair (.int .i64) (.int .i64)) .bool st2.2.2.1), (1000, .box 75 [.int .i64 a1.1, .int .i64 a1.2]), (1001, .box 60 [.int .i64 a2.1, .int .i64 a2.2.1, .sl (.sl (.int .i64)) a2.2.2.1, .sl (.sl (.int .i64)) a2.2.2.2]), (1002, .box 60 [.int .i64 a3.1, .int .i64 a3.2.1, .sl (.sl (.int .i64)) a3.2.2.1, .sl (.sl (.int .i64)) a3.2.2.2])] ?_
         refine AW.seq ?_
         refine zQ h (fun hb24 h => ?_) (fun hb24 h => ?_)
         ·refine zk ?_
          refine AW.seq ?_
          refine AW.block ?_
          refine zo ?_
          refine zB [(0, .fn (.yield lp) [] []), (2, .bp 1001 0), (3, .bp 1002 0), (5, .own 14), (6, .own 15), (7, .own 16), (8, .int .i64 st1.2.2.2.1), (9, .bp 9 0), (10, .sl (.int .i64) (st1.2.1.getD st1.2.2.2.1.toNat [])), (11, .int .i64 st2.2.2.2), (39, .int .i64 a2.2.1), (40, .int .i64 st2.2.2.2)] [(9, .box 75 [.int .i64 (st1.1.getD st1.2.2.2.1.toNat (0, 0)).1, .int .i64 (st1.1.getD st1.2.2.2.1.toNat (0, 0)).2]), (14, .arr 75 (.pair (.int .i64) (.int .i64)) st2.1), (15, .arr 25 (.sl (.int .i64)) st2.2.1), (16, .map true false (.pair (.int .i64) (.int .i64)) .bool st2.2.2.1), (1000, .box 75 [.int .i64 a1.1, .int .i64 a1.2]), (1001, .box 60 [.int .i64 a2.1, .int .i64 a2.2.1, .sl (.sl (.int .i64)) a2.2.2.1, .sl (.sl (.int .i64)) a2.2.2.2]), (1002, .box 60 [.int .i64 a3.1, .int .i64 a3.2.1, .sl (.sl (.int .i64)) a3.2.2.1, .sl (.sl (.int .i64)) a3.2.2.2])] ?_
          refine AW.seq ?_
          refine AW.draw tab_ok mixed_ok [(19, [12]), (20, [12])] [(0, [1001]), (1, [1001]), (2, [9, 999999]), (3, [9]), (4, []), (5, []), (6, []), (7, []), (8, []), (9, [1002]), (10, [1002]), (11, [9, 999999]), (12, [9]), (13, []), (14, []), (15, []), (16, []), (17, []), (18, []), (100020, [])] (by decide) (lex_fast (by kernel_rfl)) ?_
          as_aux_lemma =>
           obtain ⟨c26, h⟩ := ck_some.1 h
           obtain ⟨c27, h⟩ := ck_some.1 h
           refine adops_cut 6 (fun K' hK25 => ?_)
           try dsimp only [List.drop_succ_cons, List.drop_zero, List.take_succ_cons, List.take_zero]
           simp only [go_sem, hb8, hb24]
           repeat with_reducible refine zN ?_
           refine hK25 _ ?_
           as_aux_lemma =>
            obtain ⟨c29, h⟩ := ck_some.1 h
            obtain ⟨c30, h⟩ := ck_some.1 h
            refine adops_cut 6 (fun K' hK28 => ?_)
            try dsimp only [List.drop_succ_cons, List.drop_zero, List.take_succ_cons, List.take_zero]
            simp only [go_sem, hb8, hb24]
            repeat with_reducible refine zN ?_
            refine hK28 _ ?_
            as_aux_lemma =>
             obtain ⟨c32, h⟩ := ck_some.1 h
             obtain ⟨c33, h⟩ := ck_some.1 h
             obtain ⟨c34, h⟩ := ck_some.1 h
             obtain ⟨c35, h⟩ := ck_some.1 h
             refine adops_cut 6 (fun K' hK31 => ?_)
             try dsimp only [List.drop_succ_cons, List.drop_zero, List.take_succ_cons, List.take_zero]
             simp only [go_sem, hb8, hb24]
             repeat with_reducible refine zN ?_
             refine hK31 _ ?_
             as_aux_lemma =>
              refine adops_cut 3 (fun K' hK36 => ?_)
              try dsimp only [List.drop_succ_cons, List.drop_zero, List.take_succ_cons, List.take_zero]
              simp only [go_sem, hb8, hb24]
              repeat with_reducible refine zN ?_
              refine hK36 _ ?_
              refine adops_nil ?_
              refine athen_n ?_
              refine zV [(0, .fn (.yield lp) [] []), (2, .bp 1001 0), (3, .bp 1002 0), (5, .own 14), (6, .own 15), (7, .own 16), (8, .int .i64 st1.2.2.2.1), (9, .bp 9 0), (10, .sl (.int .i64) (st1.2.1.getD st1.2.2.2.1.toNat [])), (11, .int .i64 st2.2.2.2), (12, .bp 12 0), (39, .int .i64 a2.2.1), (40, .int .i64 st2.2.2.2)] [(9, .box 75 [.int .i64 (st1.1.getD st1.2.2.2.1.toNat (0, 0)).1, .int .i64 (st1.1.getD st1.2.2.2.1.toNat (0, 0)).2]), (12, .box 75 [.int .i64 ((a2.2.2.1.getD (st1.1.getD st1.2.2.2.1.toNat (0, 0)).1.toNat []).getD st2.2.2.2.toNat 0), .int .i64 ((a3.2.2.1.getD (st1.1.getD st1.2.2.2.1.toNat (0, 0)).2.toNat []).getD st2.2.2.2.toNat 0)]), (14, .arr 75 (.pair (.int .i64) (.int .i64)) st2.1), (15, .arr 25 (.sl (.int .i64)) st2.2.1), (16, .map true false (.pair (.int .i64) (.int .i64)) .bool st2.2.2.1), (1000, .box 75 [.int .i64 a1.1, .int .i64 a1.2]), (1001, .box 60 [.int .i64 a2.1, .int .i64 a2.2.1, .sl (.sl (.int .i64)) a2.2.2.1, .sl (.sl (.int .i64)) a2.2.2.2]), (1002, .box 60 [.int .i64 a3.1, .int .i64 a3.2.1, .sl (.sl (.int .i64)) a3.2.2.1, .sl (.sl (.int .i64)) a3.2.2.2])] (Γ s) ?_
              as_aux_lemma =>
               refine zo ?_
               refine zS 2 [(0, .fn (.yield lp) [] []), (2, .bp 1001 0), (3, .bp 1002 0), (5, .own 14), (6, .own 15), (7, .own 16), (8, .int .i64 st1.2.2.2.1), (9, .bp 9 0), (10, .sl (.int .i64) (st1.2.1.getD st1.2.2.2.1.toNat [])), (11, .int .i64 st2.2.2.2), (12, .bp 12 0), (39, .int .i64 a2.2.1), (40, .int .i64 st2.2.2.2), (62, .own 16), (63, .agg [.int .i64 ((a2.2.2.1.getD (st1.1.getD st1.2.2.2.1.toNat (0, 0)).1.toNat []).getD st2.2.2.2.toNat 0), .int .i64 ((a3.2.2.1.getD (st1.1.getD st1.2.2.2.1.toNat (0, 0)).2.toNat []).getD st2.2.2.2.toNat 0)])] [(9, .box 75 [.int .i64 (st1.1.getD st1.2.2.2.1.toNat (0, 0)).1, .int .i64 (st1.1.getD st1.2.2.2.1.toNat (0, 0)).2]), (12, .box 75 [.int .i64 ((a2.2.2.1.getD (st1.1.getD st1.2.2.2.1.toNat (0, 0)).1.toNat []).getD st2.2.2.2.toNat 0), .int .i64 ((a3.2.2.1.getD (st1.1.getD st1.2.2.2.1.toNat (0, 0)).2.toNat []).getD st2.2.2.2.toNat 0)]), (14, .arr 75 (.pair (.int .i64) (.int .i64)) st2.1), (15, .arr 25 (.sl (.int .i64)) st2.2.1), (16, .map true false (.pair (.int .i64) (.int .i64)) .bool st2.2.2.1), (1000, .box 75 [.int .i64 a1.1, .int .i64 a1.2]), (1001, .box 60 [.int .i64 a2.1, .int .i64 a2.2.1, .sl (.sl (.int .i64)) a2.2.2.1, .sl (.sl (.int .i64)) a2.2.2.2]), (1002, .box 60 [.int .i64 a3.1, .int .i64 a3.2.1, .sl (.sl (.int .i64)) a3.2.2.1, .sl (.sl (.int .i64)) a3.2.2.2])] ?_
               obtain ⟨c37, h⟩ := ck_some.1 h
               obtain ⟨c38, h⟩ := ck_some.1 h
               refine AO.lookup mapty_106 (by decide) rfl rfl rfl rfl (l := [.int .i64 ((a2.2.2.1.getD (st1.1.getD st1.2.2.2.1.toNat (0, 0)).1.toNat []).getD st2.2.2.2.toNat 0), .int .i64 ((a3.2.2.1.getD (st1.1.getD st1.2.2.2.1.toNat (0, 0)).2.toNat []).getD st2.2.2.2.toNat 0)]) (by (simp only [go_sem, hb8, hb24]) <;> (with_reducible and_intros) <;> first | assumption | rfl | omega | (unfold maxLen; omega)) (by first | rfl | (simp only [go_sem, hb8, hb24]) <;> (with_reducible and_intros) <;> first | assumption | rfl | omega | (unfold maxLen; omega)) (by (simp only [go_sem, hb8, hb24]) <;> (with_reducible and_intros) <;> first | assumption | rfl | omega | (unfold maxLen; omega)) ?_
               refine zT [(0, .fn (.yield lp) [] []), (2, .bp 1001 0), (3, .bp 1002 0), (5, .own 14), (6, .own 15), (7, .own 16), (8, .int .i64 st1.2.2.2.1), (9, .bp 9 0), (10, .sl (.int .i64) (st1.2.1.getD st1.2.2.2.1.toNat [])), (11, .int .i64 st2.2.2.2), (12, .bp 12 0), (39, .int .i64 a2.2.1), (40, .int .i64 st2.2.2.2), (64, .bool (mget false st2.2.2.1 (((a2.2.2.1.getD (st1.1.getD st1.2.2.2.1.toNat (0, 0)).1.toNat []).getD st2.2.2.2.toNat 0), ((a3.2.2.1.getD (st1.1.getD st1.2.2.2.1.toNat (0, 0)).2.toNat []).getD st2.2.2.2.toNat 0))))] [(9, .box 75 [.int .i64 (st1.1.getD st1.2.2.2.1.toNat (0, 0)).1, .int .i64 (st1.1.getD st1.2.2.2.1.toNat (0, 0)).2]), (12, .box 75 [.int .i64 ((a2.2.2.1.getD (st1.1.getD st1.2.2.2.1.toNat (0, 0)).1.toNat []).getD st2.2.2.2.toNat 0), .int .i64 ((a3.2.2.1.getD (st1.1.getD st1.2.2.2.1.toNat (0, 0)).2.toNat []).getD st2.2.2.2.toNat 0)]), (14, .arr 75 (.pair (.int .i64) (.int .i64)) st2.1), (15, .arr 25 (.sl (.int .i64)) st2.2.1), (16, .map true false (.pair (.int .i64) (.int .i64)) .bool st2.2.2.1), (1000, .box 75 [.int .i64 a1.1, .int .i64 a1.2]), (1001, .box 60 [.int .i64 a2.1, .int .i64 a2.2.1, .sl (.sl (.int .i64)) a2.2.2.1, .sl (.sl (.int .i64)) a2.2.2.2]), (1002, .box 60 [.int .i64 a3.1, .int .i64 a3.2.1, .sl (.sl (.int .i64)) a3.2.2.1, .sl (.sl (.int .i64)) a3.2.2.2])] (Γ s) ?_
               refine zB [(0, .fn (.yield lp) [] []), (2, .bp 1001 0), (3, .bp 1002 0), (5, .own 14), (6, .own 15), (7, .own 16), (8, .int .i64 st1.2.2.2.1), (9, .bp 9 0), (10, .sl (.int .i64) (st1.2.1.getD st1.2.2.2.1.toNat [])), (11, .int .i64 st2.2.2.2), (12, .bp 12 0), (39, .int .i64 a2.2.1), (40, .int .i64 st2.2.2.2), (65, .bool (!(mget false st2.2.2.1 (((a2.2.2.1.getD (st1.1.getD st1.2.2.2.1.toNat (0, 0)).1.toNat []).getD st2.2.2.2.toNat 0), ((a3.2.2.1.getD (st1.1.getD st1.2.2.2.1.toNat (0, 0)).2.toNat []).getD st2.2.2.2.toNat 0)))))] [(9, .box 75 [.int .i64 (st1.1.getD st1.2.2.2.1.toNat (0, 0)).1, .int .i64 (st1.1.getD st1.2.2.2.1.toNat (0, 0)).2]), (12, .box 75 [.int .i64 ((a2.2.2.1.getD (st1.1.getD st1.2.2.2.1.toNat (0, 0)).1.toNat []).getD st2.2.2.2.toNat 0), .int .i64 ((a3.2.2.1.getD (st1.1.getD st1.2.2.2.1.toNat (0, 0)).2.toNat []).getD st2.2.2.2.toNat 0)]), (14, .arr 75 (.pair (.int .i64) (.int .i64)) st2.1), (15, .arr 25 (.sl (.int .i64)) st2.2.1), (16, .map true false (.pair (.int .i64) (.int .i64)) .bool st2.2.2.1), (1000, .box 75 [.int .i64 a1.1, .int .i64 a1.2]), (1001, .box 60 [.int .i64 a2.1, .int .i64 a2.2.1, .sl (.sl (.int .i64)) a2.2.2.1, .sl (.sl (.int .i64)) a2.2.2.2]), (1002, .box 60 [.int .i64 a3.1, .int .i64 a3.2.1, .sl (.sl (.int .i64)) a3.2.2.1, .sl (.sl (.int .i64)) a3.2.2.2])] ?_
               refine zQ h (fun hb39 h => ?_) (fun hb39 h => ?_)
               ·refine zo ?_
                refine zS 2 [(0, .fn (.yield lp) [] []), (2, .bp 1001 0), (3, .bp 1002 0), (5, .own 14), (6, .own 15), (7, .own 16), (8, .int .i64 st1.2.2.2.1), (9, .bp 9 0), (10, .sl (.int .i64) (st1.2.1.getD st1.2.2.2.1.toNat [])), (11, .int .i64 st2.2.2.2), (12, .bp 12 0), (39, .int .i64 a2.2.1), (40, .int .i64 st2.2.2.2), (66, .own 16), (67, .agg [.int .i64 ((a2.2.2.1.getD (st1.1.getD st1.2.2.2.1.toNat (0, 0)).1.toNat []).getD st2.2.2.2.toNat 0), .int .i64 ((a3.2.2.1.getD (st1.1.getD st1.2.2.2.1.toNat (0, 0)).2.toNat []).getD st2.2.2.2.toNat 0)])] [(9, .box 75 [.int .i64 (st1.1.getD st1.2.2.2.1.toNat (0, 0)).1, .int .i64 (st1.1.getD st1.2.2.2.1.toNat (0, 0)).2]), (12, .box 75 [.int .i64 ((a2.2.2.1.getD (st1.1.getD st1.2.2.2.1.toNat (0, 0)).1.toNat []).getD st2.2.2.2.toNat 0), .int .i64 ((a3.2.2.1.getD (st1.1.getD st1.2.2.2.1.toNat (0, 0)).2.toNat []).getD st2.2.2.2.toNat 0)]), (14, .arr 75 (.pair (.int .i64) (.int .i64)) st2.1), (15, .arr 25 (.sl (.int .i64)) st2.2.1), (16, .map true false (.pair (.int .i64) (.int .i64)) .bool st2.2.2.1), (1000, .box 75 [.int .i64 a1.1, .int .i64 a1.2]), (1001, .box 60 [.int .i64 a2.1, .int .i64 a2.2.1, .sl (.sl (.int .i64)) a2.2.2.1, .sl (.sl (.int .i64)) a2.2.2.2]), (1002, .box 60 [.int .i64 a3.1, .int .i64 a3.2.1, .sl (.sl (.int .i64)) a3.2.2.1, .sl (.sl (.int .i64)) a3.2.2.2])] ?_
                obtain ⟨c40, h⟩ := ck_some.1 h
                obtain ⟨c41, h⟩ := ck_some.1 h
                refine AO.mapPut mapty_106 (by decide) rfl (.inl rfl) rfl rfl (l := [.int .i64 ((a2.2.2.1.getD (st1.1.getD st1.2.2.2.1.toNat (0, 0)).1.toNat []).getD st2.2.2.2.toNat 0), .int .i64 ((a3.2.2.1.getD (st1.1.getD st1.2.2.2.1.toNat (0, 0)).2.toNat []).getD st2.2.2.2.toNat 0)]) (by (simp only [go_sem, hb8, hb24, hb39]) <;> (with_reducible and_intros) <;> first | assumption | rfl | omega | (unfold maxLen; omega)) (by first | rfl | (simp only [go_sem, hb8, hb24, hb39]) <;> (with_reducible and_intros) <;> first | assumption | rfl | omega | (unfold maxLen; omega)) (by (simp only [go_sem, hb8, hb24, hb39]) <;> (with_reducible and_intros) <;> first | assumption | rfl | omega | (unfold maxLen; omega)) (lv := [.bool true]) (by (simp only [go_sem, hb8, hb24, hb39]) <;> (with_reducible and_intros) <;> first | assumption | rfl | omega | (unfold maxLen; omega)) (by first | rfl | (simp only [go_sem, hb8, hb24, hb39]) <;> (with_reducible and_intros) <;> first | assumption | rfl | omega | (unfold maxLen; omega)) ?_
                refine zT [(0, .fn (.yield lp) [] []), (2, .bp 1001 0), (3, .bp 1002 0), (5, .own 14), (6, .own 15), (7, .own 16), (8, .int .i64 st1.2.2.2.1), (9, .bp 9 0), (10, .sl (.int .i64) (st1.2.1.getD st1.2.2.2.1.toNat [])), (11, .int .i64 st2.2.2.2), (12, .bp 12 0), (39, .int .i64 a2.2.1), (40, .int .i64 st2.2.2.2)] [(9, .box 75 [.int .i64 (st1.1.getD st1.2.2.2.1.toNat (0, 0)).1, .int .i64 (st1.1.getD st1.2.2.2.1.toNat (0, 0)).2]), (12, .box 75 [.int .i64 ((a2.2.2.1.getD (st1.1.getD st1.2.2.2.1.toNat (0, 0)).1.toNat []).getD st2.2.2.2.toNat 0), .int .i64 ((a3.2.2.1.getD (st1.1.getD st1.2.2.2.1.toNat (0, 0)).2.toNat []).getD st2.2.2.2.toNat 0)]), (14, .arr 75 (.pair (.int .i64) (.int .i64)) st2.1), (15, .arr 25 (.sl (.int .i64)) st2.2.1), (16, .map true false (.pair (.int .i64) (.int .i64)) .bool (mput st2.2.2.1 (((a2.2.2.1.getD (st1.1.getD st1.2.2.2.1.toNat (0, 0)).1.toNat []).getD st2.2.2.2.toNat 0), ((a3.2.2.1.getD (st1.1.getD st1.2.2.2.1.toNat (0, 0)).2.toNat []).getD st2.2.2.2.toNat 0)) true)), (1000, .box 75 [.int .i64 a1.1, .int .i64 a1.2]), (1001, .box 60 [.int .i64 a2.1, .int .i64 a2.2.1, .sl (.sl (.int .i64)) a2.2.2.1, .sl (.sl (.int .i64)) a2.2.2.2]), (1002, .box 60 [.int .i64 a3.1, .int .i64 a3.2.1, .sl (.sl (.int .i64)) a3.2.2.1, .sl (.sl (.int .i64)) a3.2.2.2])] (Γ s) ?_
                refine zB [(0, .fn (.yield lp) [] []), (2, .bp 1001 0), (3, .bp 1002 0), (5, .own 14), (6, .own 15), (7, .own 16), (8, .int .i64 st1.2.2.2.1), (9, .bp 9 0), (10, .sl (.int .i64) (st1.2.1.getD st1.2.2.2.1.toNat [])), (11, .int .i64 st2.2.2.2), (12, .bp 12 0), (39, .int .i64 a2.2.1), (40, .int .i64 st2.2.2.2)] [(9, .box 75 [.int .i64 (st1.1.getD st1.2.2.2.1.toNat (0, 0)).1, .int .i64 (st1.1.getD st1.2.2.2.1.toNat (0, 0)).2]), (12, .box 75 [.int .i64 ((a2.2.2.1.getD (st1.1.getD st1.2.2.2.1.toNat (0, 0)).1.toNat []).getD st2.2.2.2.toNat 0), .int .i64 ((a3.2.2.1.getD (st1.1.getD st1.2.2.2.1.toNat (0, 0)).2.toNat []).getD st2.2.2.2.toNat 0)]), (14, .arr 75 (.pair (.int .i64) (.int .i64)) st2.1), (15, .arr 25 (.sl (.int .i64)) st2.2.1), (16, .map true false (.pair (.int .i64) (.int .i64)) .bool (mput st2.2.2.1 (((a2.2.2.1.getD (st1.1.getD st1.2.2.2.1.toNat (0, 0)).1.toNat []).getD st2.2.2.2.toNat 0), ((a3.2.2.1.getD (st1.1.getD st1.2.2.2.1.toNat (0, 0)).2.toNat []).getD st2.2.2.2.toNat 0)) true)), (1000, .box 75 [.int .i64 a1.1, .int .i64 a1.2]), (1001, .box 60 [.int .i64 a2.1, .int .i64 a2.2.1, .sl (.sl (.int .i64)) a2.2.2.1, .sl (.sl (.int .i64)) a2.2.2.2]), (1002, .box 60 [.int .i64 a3.1, .int .i64 a3.2.1, .sl (.sl (.int .i64)) a3.2.2.1, .sl (.sl (.int .i64)) a3.2.2.2])] ?_
                refine zo ?_
                obtain ⟨c42, h⟩ := ck_some.1 h
                refine zB [(0, .fn (.yield lp) [] []), (2, .bp 1001 0), (3, .bp 1002 0), (5, .own 71), (6, .own 15), (7, .own 16), (8, .int .i64 st1.2.2.2.1), (9, .bp 9 0), (10, .sl (.int .i64) (st1.2.1.getD st1.2.2.2.1.toNat [])), (11, .int .i64 st2.2.2.2), (39, .int .i64 a2.2.1), (40, .int .i64 st2.2.2.2)] [(9, .box 75 [.int .i64 (st1.1.getD st1.2.2.2.1.toNat (0, 0)).1, .int .i64 (st1.1.getD st1.2.2.2.1.toNat (0, 0)).2]), (15, .arr 25 (.sl (.int .i64)) st2.2.1), (16, .map true false (.pair (.int .i64) (.int .i64)) .bool (mput st2.2.2.1 (((a2.2.2.1.getD (st1.1.getD st1.2.2.2.1.toNat (0, 0)).1.toNat []).getD st2.2.2.2.toNat 0), ((a3.2.2.1.getD (st1.1.getD st1.2.2.2.1.toNat (0, 0)).2.toNat []).getD st2.2.2.2.toNat 0)) true)), (71, .arr 75 (.pair (.int .i64) (.int .i64)) (st2.1 ++ [(((a2.2.2.1.getD (st1.1.getD st1.2.2.2.1.toNat (0, 0)).1.toNat []).getD st2.2.2.2.toNat 0), ((a3.2.2.1.getD (st1.1.getD st1.2.2.2.1.toNat (0, 0)).2.toNat []).getD st2.2.2.2.toNat 0))])), (1000, .box 75 [.int .i64 a1.1, .int .i64 a1.2]), (1001, .box 60 [.int .i64 a2.1, .int .i64 a2.2.1, .sl (.sl (.int .i64)) a2.2.2.1, .sl (.sl (.int .i64)) a2.2.2.2]), (1002, .box 60 [.int .i64 a3.1, .int .i64 a3.2.1, .sl (.sl (.int .i64)) a3.2.2.1, .sl (.sl (.int .i64)) a3.2.2.2])] ?_
                refine AW.ops ?_
                refine zS 3 [(0, .fn (.yield lp) [] []), (2, .bp 1001 0), (3, .bp 1002 0), (5, .own 71), (7, .own 16), (8, .int .i64 st1.2.2.2.1), (9, .bp 9 0), (10, .sl (.int .i64) (st1.2.1.getD st1.2.2.2.1.toNat [])), (39, .int .i64 a2.2.1), (40, .int .i64 st2.2.2.2), (72, .own 15), (73, .sl (.int .i64) (st1.2.1.getD st1.2.2.2.1.toNat [])), (74, .int .i64 st2.2.2.2)] [(9, .box 75 [.int .i64 (st1.1.getD st1.2.2.2.1.toNat (0, 0)).1, .int .i64 (st1.1.getD st1.2.2.2.1.toNat (0, 0)).2]), (15, .arr 25 (.sl (.int .i64)) st2.2.1), (16, .map true false (.pair (.int .i64) (.int .i64)) .bool (mput st2.2.2.1 (((a2.2.2.1.getD (st1.1.getD st1.2.2.2.1.toNat (0, 0)).1.toNat []).getD st2.2.2.2.toNat 0), ((a3.2.2.1.getD (st1.1.getD st1.2.2.2.1.toNat (0, 0)).2.toNat []).getD st2.2.2.2.toNat 0)) true)), (71, .arr 75 (.pair (.int .i64) (.int .i64)) (st2.1 ++ [(((a2.2.2.1.getD (st1.1.getD st1.2.2.2.1.toNat (0, 0)).1.toNat []).getD st2.2.2.2.toNat 0), ((a3.2.2.1.getD (st1.1.getD st1.2.2.2.1.toNat (0, 0)).2.toNat []).getD st2.2.2.2.toNat 0))])), (1000, .box 75 [.int .i64 a1.1, .int .i64 a1.2]), (1001, .box 60 [.int .i64 a2.1, .int .i64 a2.2.1, .sl (.sl (.int .i64)) a2.2.2.1, .sl (.sl (.int .i64)) a2.2.2.2]), (1002, .box 60 [.int .i64 a3.1, .int .i64 a3.2.1, .sl (.sl (.int .i64)) a3.2.2.1, .sl (.sl (.int .i64)) a3.2.2.2])] ?_
                obtain ⟨v0, hv43, h⟩ := Option.bind_eq_some_iff.1 h
                refine zC [] [] (hc_spec_longer (st1.2.1.getD st1.2.2.2.1.toNat []) st2.2.2.2 hv43) [(0, .fn (.yield lp) [] []), (2, .bp 1001 0), (3, .bp 1002 0), (5, .own 71), (7, .own 16), (8, .int .i64 st1.2.2.2.1), (9, .bp 9 0), (10, .sl (.int .i64) (st1.2.1.getD st1.2.2.2.1.toNat [])), (39, .int .i64 a2.2.1), (40, .int .i64 st2.2.2.2), (72, .own 15), (75, .own 85000)] [(9, .box 75 [.int .i64 (st1.1.getD st1.2.2.2.1.toNat (0, 0)).1, .int .i64 (st1.1.getD st1.2.2.2.1.toNat (0, 0)).2]), (15, .arr 25 (.sl (.int .i64)) st2.2.1), (16, .map true false (.pair (.int .i64) (.int .i64)) .bool (mput st2.2.2.1 (((a2.2.2.1.getD (st1.1.getD st1.2.2.2.1.toNat (0, 0)).1.toNat []).getD st2.2.2.2.toNat 0), ((a3.2.2.1.getD (st1.1.getD st1.2.2.2.1.toNat (0, 0)).2.toNat []).getD st2.2.2.2.toNat 0)) true)), (71, .arr 75 (.pair (.int .i64) (.int .i64)) (st2.1 ++ [(((a2.2.2.1.getD (st1.1.getD st1.2.2.2.1.toNat (0, 0)).1.toNat []).getD st2.2.2.2.toNat 0), ((a3.2.2.1.getD (st1.1.getD st1.2.2.2.1.toNat (0, 0)).2.toNat []).getD st2.2.2.2.toNat 0))])), (1000, .box 75 [.int .i64 a1.1, .int .i64 a1.2]), (1001, .box 60 [.int .i64 a2.1, .int .i64 a2.2.1, .sl (.sl (.int .i64)) a2.2.2.1, .sl (.sl (.int .i64)) a2.2.2.2]), (1002, .box 60 [.int .i64 a3.1, .int .i64 a3.2.1, .sl (.sl (.int .i64)) a3.2.2.1, .sl (.sl (.int .i64)) a3.2.2.2]), (85000, .arr 3 (.int .i64) v0)] ?_
                obtain ⟨c44, h⟩ := ck_some.1 h
                refine zA [(0, .fn (.yield lp) [] []), (2, .bp 1001 0), (3, .bp 1002 0), (5, .own 71), (6, .own 77), (7, .own 16), (8, .int .i64 st1.2.2.2.1), (9, .bp 9 0), (10, .sl (.int .i64) (st1.2.1.getD st1.2.2.2.1.toNat [])), (39, .int .i64 a2.2.1), (40, .int .i64 st2.2.2.2)] [(9, .box 75 [.int .i64 (st1.1.getD st1.2.2.2.1.toNat (0, 0)).1, .int .i64 (st1.1.getD st1.2.2.2.1.toNat (0, 0)).2]), (16, .map true false (.pair (.int .i64) (.int .i64)) .bool (mput st2.2.2.1 (((a2.2.2.1.getD (st1.1.getD st1.2.2.2.1.toNat (0, 0)).1.toNat []).getD st2.2.2.2.toNat 0), ((a3.2.2.1.getD (st1.1.getD st1.2.2.2.1.toNat (0, 0)).2.toNat []).getD st2.2.2.2.toNat 0)) true)), (71, .arr 75 (.pair (.int .i64) (.int .i64)) (st2.1 ++ [(((a2.2.2.1.getD (st1.1.getD st1.2.2.2.1.toNat (0, 0)).1.toNat []).getD st2.2.2.2.toNat 0), ((a3.2.2.1.getD (st1.1.getD st1.2.2.2.1.toNat (0, 0)).2.toNat []).getD st2.2.2.2.toNat 0))])), (77, .arr 25 (.sl (.int .i64)) (st2.2.1 ++ [v0])), (1000, .box 75 [.int .i64 a1.1, .int .i64 a1.2]), (1001, .box 60 [.int .i64 a2.1, .int .i64 a2.2.1, .sl (.sl (.int .i64)) a2.2.2.1, .sl (.sl (.int .i64)) a2.2.2.2]), (1002, .box 60 [.int .i64 a3.1, .int .i64 a3.2.1, .sl (.sl (.int .i64)) a3.2.2.1, .sl (.sl (.int .i64)) a3.2.2.2])] ?_
                refine ablock_n ?_
                refine athen_n ?_
                refine AW.ops ?_
                obtain ⟨c45, h⟩ := ck_some.1 h
                refine zA [(0, .fn (.yield lp) [] []), (2, .bp 1001 0), (3, .bp 1002 0), (5, .own 71), (6, .own 77), (7, .own 16), (8, .int .i64 st1.2.2.2.1), (9, .bp 9 0), (10, .sl (.int .i64) (st1.2.1.getD st1.2.2.2.1.toNat [])), (39, .int .i64 a2.2.1), (40, .int .i64 (st2.2.2.2 + 1))] [(9, .box 75 [.int .i64 (st1.1.getD st1.2.2.2.1.toNat (0, 0)).1, .int .i64 (st1.1.getD st1.2.2.2.1.toNat (0, 0)).2]), (16, .map true false (.pair (.int .i64) (.int .i64)) .bool (mput st2.2.2.1 (((a2.2.2.1.getD (st1.1.getD st1.2.2.2.1.toNat (0, 0)).1.toNat []).getD st2.2.2.2.toNat 0), ((a3.2.2.1.getD (st1.1.getD st1.2.2.2.1.toNat (0, 0)).2.toNat []).getD st2.2.2.2.toNat 0)) true)), (71, .arr 75 (.pair (.int .i64) (.int .i64)) (st2.1 ++ [(((a2.2.2.1.getD (st1.1.getD st1.2.2.2.1.toNat (0, 0)).1.toNat []).getD st2.2.2.2.toNat 0), ((a3.2.2.1.getD (st1.1.getD st1.2.2.2.1.toNat (0, 0)).2.toNat []).getD st2.2.2.2.toNat 0))])), (77, .arr 25 (.sl (.int .i64)) (st2.2.1 ++ [v0])), (1000, .box 75 [.int .i64 a1.1, .int .i64 a1.2]), (1001, .box 60 [.int .i64 a2.1, .int .i64 a2.2.1, .sl (.sl (.int .i64)) a2.2.2.1, .sl (.sl (.int .i64)) a2.2.2.2]), (1002, .box 60 [.int .i64 a3.1, .int .i64 a3.2.1, .sl (.sl (.int .i64)) a3.2.2.1, .sl (.sl (.int .i64)) a3.2.2.2])] ?_
                obtain rfl := Option.some.inj h
                exact ⟨_, rfl, zL [] [] [(14, 71), (15, 77)]⟩
               ·refine zm ?_
                refine athen_n ?_
                refine AW.ops ?_
                obtain ⟨c46, h⟩ := ck_some.1 h
                refine zA [(0, .fn (.yield lp) [] []), (2, .bp 1001 0), (3, .bp 1002 0), (5, .own 14), (6, .own 15), (7, .own 16), (8, .int .i64 st1.2.2.2.1), (9, .bp 9 0), (10, .sl (.int .i64) (st1.2.1.getD st1.2.2.2.1.toNat [])), (39, .int .i64 a2.2.1), (40, .int .i64 (st2.2.2.2 + 1))] [(9, .box 75 [.int .i64 (st1.1.getD st1.2.2.2.1.toNat (0, 0)).1, .int .i64 (st1.1.getD st1.2.2.2.1.toNat (0, 0)).2]), (14, .arr 75 (.pair (.int .i64) (.int .i64)) st2.1), (15, .arr 25 (.sl (.int .i64)) st2.2.1), (16, .map true false (.pair (.int .i64) (.int .i64)) .bool st2.2.2.1), (1000, .box 75 [.int .i64 a1.1, .int .i64 a1.2]), (1001, .box 60 [.int .i64 a2.1, .int .i64 a2.2.1, .sl (.sl (.int .i64)) a2.2.2.1, .sl (.sl (.int .i64)) a2.2.2.2]), (1002, .box 60 [.int .i64 a3.1, .int .i64 a3.2.1, .sl (.sl (.int .i64)) a3.2.2.1, .sl (.sl (.int .i64)) a3.2.2.2])] ?_
                obtain rfl := Option.some.inj h
                exact ⟨_, rfl, zL [] [] []⟩
         ·refine AW.exit ?_
          refine athen_e ?_
          obtain rfl := Option.some.inj h
          rw [← hd21 _ rfl] at ho20
          have h := ho20
          refine athen_e ?_
          refine ablock_s ?_
          refine ablock_n ?_
          refine athen_n ?_
          exact AW.weaken (zL [] [] []) (hk_spec_walk_1_k1 _ h)
       | done e =>
        try simp only at h
        refine zT [(0, .fn (.yield lp) [] []), (2, .bp 1001 0), (3, .bp 1002 0), (5, .own 14), (6, .own 15), (7, .own 16), (8, .int .i64 st1.2.2.2.1), (9, .bp 9 0), (10, .sl (.int .i64) (st1.2.1.getD st1.2.2.2.1.toNat [])), (36, .bool false)] [(9, .box 75 [.int .i64 (st1.1.getD st1.2.2.2.1.toNat (0, 0)).1, .int .i64 (st1.1.getD st1.2.2.2.1.toNat (0, 0)).2]), (14, .arr 75 (.pair (.int .i64) (.int .i64)) st1.1), (15, .arr 25 (.sl (.int .i64)) st1.2.1), (16, .map true false (.pair (.int .i64) (.int .i64)) .bool st1.2.2.1), (1000, .box 75 [.int .i64 a1.1, .int .i64 a1.2]), (1001, .box 60 [.int .i64 a2.1, .int .i64 a2.2.1, .sl (.sl (.int .i64)) a2.2.2.1, .sl (.sl (.int .i64)) a2.2.2.2]), (1002, .box 60 [.int .i64 a3.1, .int .i64 a3.2.1, .sl (.sl (.int .i64)) a3.2.2.1, .sl (.sl (.int .i64)) a3.2.2.2])] (Γx e) ?_
        refine zB [(0, .fn (.yield lp) [] []), (2, .bp 1001 0), (3, .bp 1002 0), (5, .own 14), (6, .own 15), (7, .own 16), (8, .int .i64 st1.2.2.2.1), (9, .bp 9 0), (10, .sl (.int .i64) (st1.2.1.getD st1.2.2.2.1.toNat [])), (37, .bool true)] [(9, .box 75 [.int .i64 (st1.1.getD st1.2.2.2.1.toNat (0, 0)).1, .int .i64 (st1.1.getD st1.2.2.2.1.toNat (0, 0)).2]), (14, .arr 75 (.pair (.int .i64) (.int .i64)) st1.1), (15, .arr 25 (.sl (.int .i64)) st1.2.1), (16, .map true false (.pair (.int .i64) (.int .i64)) .bool st1.2.2.1), (1000, .box 75 [.int .i64 a1.1, .int .i64 a1.2]), (1001, .box 60 [.int .i64 a2.1, .int .i64 a2.2.1, .sl (.sl (.int .i64)) a2.2.2.1, .sl (.sl (.int .i64)) a2.2.2.2]), (1002, .box 60 [.int .i64 a3.1, .int .i64 a3.2.1, .sl (.sl (.int .i64)) a3.2.2.1, .sl (.sl (.int .i64)) a3.2.2.2])] ?_
        refine AW.cond (b := true) rfl (fun _ => ?_) (fun hb47 => by cases hb47)
        refine zr ?_
        refine ablock_r ?_
        refine athen_r ?_
        obtain rfl := Option.some.inj h
        rw [← hd5 _ rfl] at ho4
        have h := ho4
        try simp only at h
        refine athen_r ?_
        refine ablock_r ?_
        obtain rfl := Option.some.inj h
        exact rfl
  ·refine AW.exit ?_
   refine athen_e ?_
   obtain rfl := Option.some.inj h
   rw [← hd5 _ rfl] at ho4
   have h := ho4
   try simp only at h
   refine athen_e ?_
   refine ablock_s ?_
   obtain rfl := Option.some.inj h
   exact rfl

end Go.Proofs.Ytcgflignbhmoaaa
