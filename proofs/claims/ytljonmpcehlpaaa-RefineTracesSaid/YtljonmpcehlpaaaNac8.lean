/-
  Made by wip/tool/dc.py out of the print of the program: contracts.
-/
import Derived.Test.YtljonmpcehlpaaaRfp
import Derived.Test.YtljonmpcehlpaaaShr
import Derived.Test.YtljonmpcehlpaaaAvd
import Derived.Test.YtljonmpcehlpaaaNac7
namespace Go.Proofs.Ytljonmpcehlpaaa
open Go.RowKit

set_option linter.unusedSimpArgs false
set_option linter.unusedVariables false
set_option linter.constructorNameAsVariable false

set_option maxRecDepth 100000
set_option maxHeartbeats 2000000

theorem hc_linealref05_step (s : Int × (List (Int × Int × Int))) (set0 : Int) (label : Int) {r : Int} (h : linealref05_step s set0 label = some r) : HC Try.prog 104 [] [.agg [.int .i64 s.1, .sl (.pair (.int .i64) (.pair (.int .i64) (.int .i64))) s.2], .int .i64 set0, .int .i64 label] [] (.int .i64 r) := by
 unfold linealref05_step at h
 refine zH Try.func104 [.tmp 6] 36 ?_
 refine zo ?_
 refine zB [(1, .int .i64 set0), (2, .int .i64 label), (3, .bp 3 0)] [(3, .box 24 [.int .i64 s.1, .sl (.pair (.int .i64) (.pair (.int .i64) (.int .i64))) s.2])] ?_
 refine zo ?_
 refine zB [(1, .int .i64 set0), (2, .int .i64 label), (3, .bp 3 0), (7, .int .i64 0)] [(3, .box 24 [.int .i64 s.1, .sl (.pair (.int .i64) (.pair (.int .i64) (.int .i64))) s.2])] ?_
 refine AW.have1 (fun b1 : Int => linealref05_step_k1 b1 = some r) (fun b1 => ⟨fr [(7, .int .i64 b1)], hpGet [], gt⟩) (fun b1 h => ?_) (fun hk_linealref05_step_k1 => ?_)
 ·as_aux_lemma =>
   unfold linealref05_step_k1 at h
   refine zo ?_
   refine zB [(6, .int .i64 b1)] [] ?_
   refine AW.ret ?_
   obtain rfl := Option.some.inj h
   exact zR [] [] []
 ·refine AW.seq ?_
  refine zo ?_
  refine zB [(1, .int .i64 set0), (2, .int .i64 label), (7, .int .i64 0), (11, .sl (.pair (.int .i64) (.pair (.int .i64) (.int .i64))) s.2), (12, .int .i64 (s.2.length : Int)), (13, .int .i64 0)] [] ?_
  refine AW.block ?_
  obtain ⟨rv5, hw1, ho2⟩ := Option.bind_eq_some_iff.1 h
  refine AW.loopO (linealref05_step_b1 s set0 label) (fun st1 => ⟨fr [(1, .int .i64 set0), (2, .int .i64 label), (7, .int .i64 st1.1), (11, .sl (.pair (.int .i64) (.pair (.int .i64) (.int .i64))) s.2), (12, .int .i64 (s.2.length : Int)), (13, .int .i64 st1.2)], hpGet [], gt⟩) (0, 0) hw1 (zL [] [] []) ?_
  as_aux_lemma =>
   intro st1 x4 h hd3
   unfold linealref05_step_b1 at h
   refine zo ?_
   refine zB [(1, .int .i64 set0), (2, .int .i64 label), (7, .int .i64 st1.1), (11, .sl (.pair (.int .i64) (.pair (.int .i64) (.int .i64))) s.2), (12, .int .i64 (s.2.length : Int)), (13, .int .i64 st1.2), (14, .bool (decide (st1.2 < (s.2.length : Int))))] [] ?_
   refine AW.seq ?_
   refine zQ h (fun hb6 h => ?_) (fun hb6 h => ?_)
   ·refine zk ?_
    refine AW.seq ?_
    refine AW.block ?_
    refine zo ?_
    obtain ⟨c7, h⟩ := ck_some.1 h
    obtain ⟨c8, h⟩ := ck_some.1 h
    refine zB [(1, .int .i64 set0), (2, .int .i64 label), (7, .int .i64 st1.1), (9, .bp 9 0), (11, .sl (.pair (.int .i64) (.pair (.int .i64) (.int .i64))) s.2), (12, .int .i64 (s.2.length : Int)), (13, .int .i64 st1.2)] [(9, .box 66 [.int .i64 (s.2.getD st1.2.toNat (0, 0, 0)).1, .int .i64 (s.2.getD st1.2.toNat (0, 0, 0)).2.1, .int .i64 (s.2.getD st1.2.toNat (0, 0, 0)).2.2])] ?_
    refine zo ?_
    refine zS 5 [(1, .int .i64 set0), (2, .int .i64 label), (7, .int .i64 st1.1), (9, .bp 9 0), (11, .sl (.pair (.int .i64) (.pair (.int .i64) (.int .i64))) s.2), (12, .int .i64 (s.2.length : Int)), (13, .int .i64 st1.2), (21, .bool (decide ((s.2.getD st1.2.toNat (0, 0, 0)).2.1 = label)))] [(9, .box 66 [.int .i64 (s.2.getD st1.2.toNat (0, 0, 0)).1, .int .i64 (s.2.getD st1.2.toNat (0, 0, 0)).2.1, .int .i64 (s.2.getD st1.2.toNat (0, 0, 0)).2.2])] ?_
    rcases zI h with ⟨hb9, h⟩ | ⟨hb9, h⟩
    ·obtain ⟨c10, h⟩ := ck_some.1 h
     refine zS 5 [(1, .int .i64 set0), (2, .int .i64 label), (7, .int .i64 st1.1), (9, .bp 9 0), (11, .sl (.pair (.int .i64) (.pair (.int .i64) (.int .i64))) s.2), (12, .int .i64 (s.2.length : Int)), (13, .int .i64 st1.2), (21, .bool true), (26, .int .i64 (iand .i64 (ishr .i64 set0 (s.2.getD st1.2.toNat (0, 0, 0)).1) 1))] [(9, .box 66 [.int .i64 (s.2.getD st1.2.toNat (0, 0, 0)).1, .int .i64 (s.2.getD st1.2.toNat (0, 0, 0)).2.1, .int .i64 (s.2.getD st1.2.toNat (0, 0, 0)).2.2])] ?_
     refine zB [(1, .int .i64 set0), (2, .int .i64 label), (7, .int .i64 st1.1), (9, .bp 9 0), (11, .sl (.pair (.int .i64) (.pair (.int .i64) (.int .i64))) s.2), (12, .int .i64 (s.2.length : Int)), (13, .int .i64 st1.2), (28, .bool (decide ((iand .i64 (ishr .i64 set0 (s.2.getD st1.2.toNat (0, 0, 0)).1) 1) = 1)))] [(9, .box 66 [.int .i64 (s.2.getD st1.2.toNat (0, 0, 0)).1, .int .i64 (s.2.getD st1.2.toNat (0, 0, 0)).2.1, .int .i64 (s.2.getD st1.2.toNat (0, 0, 0)).2.2])] ?_
     refine zQ h (fun hb11 h => ?_) (fun hb11 h => ?_)
     ·refine AW.ops ?_
      obtain ⟨c12, h⟩ := ck_some.1 h
      refine zS 5 [(1, .int .i64 set0), (2, .int .i64 label), (11, .sl (.pair (.int .i64) (.pair (.int .i64) (.int .i64))) s.2), (12, .int .i64 (s.2.length : Int)), (13, .int .i64 st1.2), (33, .int .i64 (ior .i64 st1.1 (ishl .i64 1 (s.2.getD st1.2.toNat (0, 0, 0)).2.2)))] [] ?_
      refine zA [(1, .int .i64 set0), (2, .int .i64 label), (7, .int .i64 (ior .i64 st1.1 (ishl .i64 1 (s.2.getD st1.2.toNat (0, 0, 0)).2.2))), (11, .sl (.pair (.int .i64) (.pair (.int .i64) (.int .i64))) s.2), (12, .int .i64 (s.2.length : Int)), (13, .int .i64 st1.2)] [] ?_
      refine ablock_n ?_
      refine athen_n ?_
      refine AW.ops ?_
      obtain ⟨c13, h⟩ := ck_some.1 h
      refine zA [(1, .int .i64 set0), (2, .int .i64 label), (7, .int .i64 (ior .i64 st1.1 (ishl .i64 1 (s.2.getD st1.2.toNat (0, 0, 0)).2.2))), (11, .sl (.pair (.int .i64) (.pair (.int .i64) (.int .i64))) s.2), (12, .int .i64 (s.2.length : Int)), (13, .int .i64 (st1.2 + 1))] [] ?_
      obtain rfl := Option.some.inj h
      exact ⟨_, rfl, zL [] [] []⟩
     ·refine zm ?_
      refine athen_n ?_
      refine AW.ops ?_
      obtain ⟨c14, h⟩ := ck_some.1 h
      refine zA [(1, .int .i64 set0), (2, .int .i64 label), (7, .int .i64 st1.1), (11, .sl (.pair (.int .i64) (.pair (.int .i64) (.int .i64))) s.2), (12, .int .i64 (s.2.length : Int)), (13, .int .i64 (st1.2 + 1))] [] ?_
      obtain rfl := Option.some.inj h
      exact ⟨_, rfl, zL [] [] []⟩
    ·refine zS 4 [(1, .int .i64 set0), (2, .int .i64 label), (7, .int .i64 st1.1), (9, .bp 9 0), (11, .sl (.pair (.int .i64) (.pair (.int .i64) (.int .i64))) s.2), (12, .int .i64 (s.2.length : Int)), (13, .int .i64 st1.2), (21, .bool false), (25, .cv (undef))] [(9, .box 66 [.int .i64 (s.2.getD st1.2.toNat (0, 0, 0)).1, .int .i64 (s.2.getD st1.2.toNat (0, 0, 0)).2.1, .int .i64 (s.2.getD st1.2.toNat (0, 0, 0)).2.2])] ?_
     refine zB [(1, .int .i64 set0), (2, .int .i64 label), (7, .int .i64 st1.1), (9, .bp 9 0), (11, .sl (.pair (.int .i64) (.pair (.int .i64) (.int .i64))) s.2), (12, .int .i64 (s.2.length : Int)), (13, .int .i64 st1.2), (28, .bool false)] [(9, .box 66 [.int .i64 (s.2.getD st1.2.toNat (0, 0, 0)).1, .int .i64 (s.2.getD st1.2.toNat (0, 0, 0)).2.1, .int .i64 (s.2.getD st1.2.toNat (0, 0, 0)).2.2])] ?_
     refine AW.cond (b := false) rfl (fun hb15 => by cases hb15) (fun _ => ?_)
     refine zm ?_
     refine athen_n ?_
     refine AW.ops ?_
     obtain ⟨c16, h⟩ := ck_some.1 h
     refine zA [(1, .int .i64 set0), (2, .int .i64 label), (7, .int .i64 st1.1), (11, .sl (.pair (.int .i64) (.pair (.int .i64) (.int .i64))) s.2), (12, .int .i64 (s.2.length : Int)), (13, .int .i64 (st1.2 + 1))] [] ?_
     obtain rfl := Option.some.inj h
     exact ⟨_, rfl, zL [] [] []⟩
   ·refine AW.exit ?_
    refine athen_e ?_
    obtain rfl := Option.some.inj h
    rw [← hd3 _ rfl] at ho2
    have h := ho2
    refine athen_e ?_
    refine ablock_s ?_
    refine athen_n ?_
    exact AW.weaken (zL [] [] []) (hk_linealref05_step_k1 _ h)

theorem hc_linealref05_quiet (s : Int × (List (Int × Int × Int))) (set0 : Int) {r : Int} (h : linealref05_quiet s set0 = some r) : HC Try.prog 95 [] [.agg [.int .i64 s.1, .sl (.pair (.int .i64) (.pair (.int .i64) (.int .i64))) s.2], .int .i64 set0] [] (.int .i64 r) := by
 unfold linealref05_quiet at h
 refine zH Try.func95 [.tmp 4] 16 ?_
 refine zo ?_
 refine zB [(1, .int .i64 set0), (2, .bp 2 0)] [(2, .box 24 [.int .i64 s.1, .sl (.pair (.int .i64) (.pair (.int .i64) (.int .i64))) s.2])] ?_
 refine AW.have1 (fun b1 : Int => linealref05_quiet_k1 b1 = some r) (fun b1 => ⟨fr [(1, .int .i64 b1)], hpGet [], gt⟩) (fun b1 h => ?_) (fun hk_linealref05_quiet_k1 => ?_)
 ·as_aux_lemma =>
   unfold linealref05_quiet_k1 at h
   refine zo ?_
   refine zB [(4, .int .i64 b1)] [] ?_
   refine AW.ret ?_
   obtain rfl := Option.some.inj h
   exact zR [] [] []
 ·refine AW.seq ?_
  refine zo ?_
  refine zB [(1, .int .i64 set0), (2, .bp 2 0), (6, .int .i64 s.1), (7, .int .i64 0)] [(2, .box 24 [.int .i64 s.1, .sl (.pair (.int .i64) (.pair (.int .i64) (.int .i64))) s.2])] ?_
  refine AW.block ?_
  obtain ⟨rv5, hw1, ho2⟩ := Option.bind_eq_some_iff.1 h
  refine AW.loopO (linealref05_quiet_b1 s) (fun st1 => ⟨fr [(1, .int .i64 st1.1), (2, .bp 2 0), (6, .int .i64 s.1), (7, .int .i64 st1.2)], hpGet [(2, .box 24 [.int .i64 s.1, .sl (.pair (.int .i64) (.pair (.int .i64) (.int .i64))) s.2])], gt⟩) (set0, 0) hw1 (zL [] [] []) ?_
  as_aux_lemma =>
   intro st1 x4 h hd3
   unfold linealref05_quiet_b1 at h
   refine zo ?_
   refine zB [(1, .int .i64 st1.1), (2, .bp 2 0), (6, .int .i64 s.1), (7, .int .i64 st1.2), (8, .bool (decide (st1.2 < s.1)))] [(2, .box 24 [.int .i64 s.1, .sl (.pair (.int .i64) (.pair (.int .i64) (.int .i64))) s.2])] ?_
   refine AW.seq ?_
   refine zQ h (fun hb6 h => ?_) (fun hb6 h => ?_)
   ·refine zk ?_
    refine AW.seq ?_
    refine AW.block ?_
    refine AW.ops ?_
    refine zS 3 [(2, .bp 2 0), (6, .int .i64 s.1), (7, .int .i64 st1.2), (9, .int .i64 st1.1), (10, .agg [.int .i64 s.1, .sl (.pair (.int .i64) (.pair (.int .i64) (.int .i64))) s.2]), (11, .int .i64 st1.1)] [(2, .box 24 [.int .i64 s.1, .sl (.pair (.int .i64) (.pair (.int .i64) (.int .i64))) s.2])] ?_
    obtain ⟨v0, hv7, h⟩ := Option.bind_eq_some_iff.1 h
    refine zC [] [] (hc_linealref05_step s st1.1 0 hv7) [(2, .bp 2 0), (6, .int .i64 s.1), (7, .int .i64 st1.2), (9, .int .i64 st1.1), (12, .int .i64 v0)] [(2, .box 24 [.int .i64 s.1, .sl (.pair (.int .i64) (.pair (.int .i64) (.int .i64))) s.2])] ?_
    refine zA [(1, .int .i64 (ior .i64 st1.1 v0)), (2, .bp 2 0), (6, .int .i64 s.1), (7, .int .i64 st1.2)] [(2, .box 24 [.int .i64 s.1, .sl (.pair (.int .i64) (.pair (.int .i64) (.int .i64))) s.2])] ?_
    refine ablock_n ?_
    refine athen_n ?_
    refine AW.ops ?_
    obtain ⟨c8, h⟩ := ck_some.1 h
    refine zA [(1, .int .i64 (ior .i64 st1.1 v0)), (2, .bp 2 0), (6, .int .i64 s.1), (7, .int .i64 (st1.2 + 1))] [(2, .box 24 [.int .i64 s.1, .sl (.pair (.int .i64) (.pair (.int .i64) (.int .i64))) s.2])] ?_
    obtain rfl := Option.some.inj h
    exact ⟨_, rfl, zL [] [] []⟩
   ·refine AW.exit ?_
    refine athen_e ?_
    obtain rfl := Option.some.inj h
    rw [← hd3 _ rfl] at ho2
    have h := ho2
    refine athen_e ?_
    refine ablock_s ?_
    refine athen_n ?_
    exact AW.weaken (zL [] [] []) (hk_linealref05_quiet_k1 _ h)

theorem hc_linealref05_comes (s : Int × (List (Int × Int × Int))) (set0 : Int) (label : Int) {r : Int} (h : linealref05_comes s set0 label = some r) : HC Try.prog 64 [] [.agg [.int .i64 s.1, .sl (.pair (.int .i64) (.pair (.int .i64) (.int .i64))) s.2], .int .i64 set0, .int .i64 label] [] (.int .i64 r) := by
 unfold linealref05_comes at h
 refine zH Try.func64 [.tmp 6] 20 ?_
 refine zo ?_
 refine zB [(1, .int .i64 set0), (2, .int .i64 label), (3, .bp 3 0)] [(3, .box 24 [.int .i64 s.1, .sl (.pair (.int .i64) (.pair (.int .i64) (.int .i64))) s.2])] ?_
 refine AW.seq ?_
 refine zo ?_
 refine zB [(1, .int .i64 set0), (2, .int .i64 label), (3, .bp 3 0), (8, .bool (decide (label = 0)))] [(3, .box 24 [.int .i64 s.1, .sl (.pair (.int .i64) (.pair (.int .i64) (.int .i64))) s.2])] ?_
 refine zQ h (fun hb1 h => ?_) (fun hb1 h => ?_)
 ·refine zo ?_
  refine zS 2 [(9, .agg [.int .i64 s.1, .sl (.pair (.int .i64) (.pair (.int .i64) (.int .i64))) s.2]), (10, .int .i64 set0)] [] ?_
  obtain ⟨v0, hv2, h⟩ := Option.bind_eq_some_iff.1 h
  refine zC [] [] (hc_linealref05_quiet s set0 hv2) [(11, .int .i64 v0)] [] ?_
  refine zB [(6, .int .i64 v0)] [] ?_
  refine zr ?_
  obtain rfl := Option.some.inj h
  exact zR [] [] []
 ·refine zk ?_
  refine AW.seq ?_
  refine AW.draw tab_ok mixed_ok [] [] (by decide) (lex_fast (by kernel_rfl)) ?_
  as_aux_lemma =>
   refine adops_cut 4 (fun K' hK3 => ?_)
   try dsimp only [List.drop_succ_cons, List.drop_zero, List.take_succ_cons, List.take_zero]
   simp only [go_sem, hb1]
   repeat with_reducible refine zN ?_
   refine hK3 _ ?_
   as_aux_lemma =>
    obtain ⟨v0_2, hv4, h⟩ := Option.bind_eq_some_iff.1 h
    refine adops.call (by first | trivial | rfl) rfl rfl rfl (fun _ h => h) [] [] (hc_linealref05_quiet s set0 hv4) rfl (by (simp only [go_sem, hb1]) <;> (with_reducible and_intros) <;> first | assumption | rfl | omega | (unfold maxLen; omega)) (by (simp only [go_sem, hb1]) <;> (with_reducible and_intros) <;> first | assumption | rfl | omega | (unfold maxLen; omega)) rfl ?_
    refine adops_cut 1 (fun K' hK5 => ?_)
    try dsimp only [List.drop_succ_cons, List.drop_zero, List.take_succ_cons, List.take_zero]
    simp only [go_sem, hb1]
    repeat with_reducible refine zN ?_
    refine hK5 _ ?_
    as_aux_lemma =>
     obtain ⟨v0_3, hv6, h⟩ := Option.bind_eq_some_iff.1 h
     refine adops.call (by first | trivial | rfl) rfl rfl rfl (fun _ h => h) [] [] (hc_linealref05_step s v0_2 label hv6) rfl (by (simp only [go_sem, hb1]) <;> (with_reducible and_intros) <;> first | assumption | rfl | omega | (unfold maxLen; omega)) (by (simp only [go_sem, hb1]) <;> (with_reducible and_intros) <;> first | assumption | rfl | omega | (unfold maxLen; omega)) rfl ?_
     obtain ⟨v0_4, hv7, h⟩ := Option.bind_eq_some_iff.1 h
     refine adops.call (by first | trivial | rfl) rfl rfl rfl (fun _ h => h) [] [] (hc_linealref05_quiet s v0_3 hv7) rfl (by (simp only [go_sem, hb1]) <;> (with_reducible and_intros) <;> first | assumption | rfl | omega | (unfold maxLen; omega)) (by (simp only [go_sem, hb1]) <;> (with_reducible and_intros) <;> first | assumption | rfl | omega | (unfold maxLen; omega)) rfl ?_
     refine adops_cut 1 (fun K' hK8 => ?_)
     try dsimp only [List.drop_succ_cons, List.drop_zero, List.take_succ_cons, List.take_zero]
     simp only [go_sem, hb1]
     repeat with_reducible refine zN ?_
     refine hK8 _ ?_
     refine adops_nil ?_
     refine athen_n ?_
     refine zV [(6, .int .i64 v0_4)] [] gt ?_
     as_aux_lemma =>
      refine AW.ret ?_
      obtain rfl := Option.some.inj h
      exact zR [] [] []

theorem hc_linealref05_behind (s : Int × (List (Int × Int × Int))) (trace : List Int) {r : Int} (h : linealref05_behind s trace = some r) : HC Try.prog 77 [] [.agg [.int .i64 s.1, .sl (.pair (.int .i64) (.pair (.int .i64) (.int .i64))) s.2], .sl (.int .i64) trace] [] (.int .i64 r) := by
 unfold linealref05_behind at h
 refine zH Try.func77 [.tmp 4] 22 ?_
 refine zo ?_
 refine zB [(1, .sl (.int .i64) trace), (2, .bp 2 0)] [(2, .box 24 [.int .i64 s.1, .sl (.pair (.int .i64) (.pair (.int .i64) (.int .i64))) s.2])] ?_
 refine zo ?_
 refine zS 1 [(1, .sl (.int .i64) trace), (2, .bp 2 0), (8, .agg [.int .i64 s.1, .sl (.pair (.int .i64) (.pair (.int .i64) (.int .i64))) s.2])] [(2, .box 24 [.int .i64 s.1, .sl (.pair (.int .i64) (.pair (.int .i64) (.int .i64))) s.2])] ?_
 obtain ⟨v0, hv1, h⟩ := Option.bind_eq_some_iff.1 h
 refine zC [] [] (hc_linealref05_quiet s 1 hv1) [(1, .sl (.int .i64) trace), (2, .bp 2 0), (9, .int .i64 v0)] [(2, .box 24 [.int .i64 s.1, .sl (.pair (.int .i64) (.pair (.int .i64) (.int .i64))) s.2])] ?_
 refine zB [(1, .sl (.int .i64) trace), (2, .bp 2 0), (5, .int .i64 v0)] [(2, .box 24 [.int .i64 s.1, .sl (.pair (.int .i64) (.pair (.int .i64) (.int .i64))) s.2])] ?_
 refine AW.have1 (fun b1 : Int => linealref05_behind_k1 b1 = some r) (fun b1 => ⟨fr [(5, .int .i64 b1)], hpGet [], gt⟩) (fun b1 h => ?_) (fun hk_linealref05_behind_k1 => ?_)
 ·as_aux_lemma =>
   unfold linealref05_behind_k1 at h
   refine zo ?_
   refine zB [(4, .int .i64 b1)] [] ?_
   refine AW.ret ?_
   obtain rfl := Option.some.inj h
   exact zR [] [] []
 ·refine AW.seq ?_
  refine zo ?_
  refine zB [(2, .bp 2 0), (5, .int .i64 v0), (10, .sl (.int .i64) trace), (11, .int .i64 (trace.length : Int)), (12, .int .i64 0)] [(2, .box 24 [.int .i64 s.1, .sl (.pair (.int .i64) (.pair (.int .i64) (.int .i64))) s.2])] ?_
  refine AW.block ?_
  obtain ⟨rv6, hw2, ho3⟩ := Option.bind_eq_some_iff.1 h
  refine AW.loopO (linealref05_behind_b1 s trace) (fun st1 => ⟨fr [(2, .bp 2 0), (5, .int .i64 st1.1), (10, .sl (.int .i64) trace), (11, .int .i64 (trace.length : Int)), (12, .int .i64 st1.2)], hpGet [(2, .box 24 [.int .i64 s.1, .sl (.pair (.int .i64) (.pair (.int .i64) (.int .i64))) s.2])], gt⟩) (v0, 0) hw2 (zL [] [] []) ?_
  as_aux_lemma =>
   intro st1 x5 h hd4
   unfold linealref05_behind_b1 at h
   refine zo ?_
   refine zB [(2, .bp 2 0), (5, .int .i64 st1.1), (10, .sl (.int .i64) trace), (11, .int .i64 (trace.length : Int)), (12, .int .i64 st1.2), (13, .bool (decide (st1.2 < (trace.length : Int))))] [(2, .box 24 [.int .i64 s.1, .sl (.pair (.int .i64) (.pair (.int .i64) (.int .i64))) s.2])] ?_
   refine AW.seq ?_
   refine zQ h (fun hb7 h => ?_) (fun hb7 h => ?_)
   ·refine zk ?_
    refine AW.seq ?_
    refine AW.block ?_
    refine zo ?_
    obtain ⟨c8, h⟩ := ck_some.1 h
    obtain ⟨c9, h⟩ := ck_some.1 h
    refine zB [(2, .bp 2 0), (5, .int .i64 st1.1), (7, .int .i64 (trace.getD st1.2.toNat 0)), (10, .sl (.int .i64) trace), (11, .int .i64 (trace.length : Int)), (12, .int .i64 st1.2)] [(2, .box 24 [.int .i64 s.1, .sl (.pair (.int .i64) (.pair (.int .i64) (.int .i64))) s.2])] ?_
    refine AW.ops ?_
    refine zS 3 [(2, .bp 2 0), (10, .sl (.int .i64) trace), (11, .int .i64 (trace.length : Int)), (12, .int .i64 st1.2), (16, .agg [.int .i64 s.1, .sl (.pair (.int .i64) (.pair (.int .i64) (.int .i64))) s.2]), (17, .int .i64 st1.1), (18, .int .i64 (trace.getD st1.2.toNat 0))] [(2, .box 24 [.int .i64 s.1, .sl (.pair (.int .i64) (.pair (.int .i64) (.int .i64))) s.2])] ?_
    obtain ⟨v0_2, hv10, h⟩ := Option.bind_eq_some_iff.1 h
    refine zC [] [] (hc_linealref05_comes s st1.1 (trace.getD st1.2.toNat 0) hv10) [(2, .bp 2 0), (10, .sl (.int .i64) trace), (11, .int .i64 (trace.length : Int)), (12, .int .i64 st1.2), (19, .int .i64 v0_2)] [(2, .box 24 [.int .i64 s.1, .sl (.pair (.int .i64) (.pair (.int .i64) (.int .i64))) s.2])] ?_
    refine zA [(2, .bp 2 0), (5, .int .i64 v0_2), (10, .sl (.int .i64) trace), (11, .int .i64 (trace.length : Int)), (12, .int .i64 st1.2)] [(2, .box 24 [.int .i64 s.1, .sl (.pair (.int .i64) (.pair (.int .i64) (.int .i64))) s.2])] ?_
    refine ablock_n ?_
    refine athen_n ?_
    refine AW.ops ?_
    obtain ⟨c11, h⟩ := ck_some.1 h
    refine zA [(2, .bp 2 0), (5, .int .i64 v0_2), (10, .sl (.int .i64) trace), (11, .int .i64 (trace.length : Int)), (12, .int .i64 (st1.2 + 1))] [(2, .box 24 [.int .i64 s.1, .sl (.pair (.int .i64) (.pair (.int .i64) (.int .i64))) s.2])] ?_
    obtain rfl := Option.some.inj h
    exact ⟨_, rfl, zL [] [] []⟩
   ·refine AW.exit ?_
    refine athen_e ?_
    obtain rfl := Option.some.inj h
    rw [← hd4 _ rfl] at ho3
    have h := ho3
    refine athen_e ?_
    refine ablock_s ?_
    refine athen_n ?_
    exact AW.weaken (zL [] [] []) (hk_linealref05_behind_k1 _ h)

theorem hc_linealref05_IsTrace (s : Int × (List (Int × Int × Int))) (trace : List Int) {r : Bool × Int} (h : linealref05_IsTrace s trace = some r) : HC Try.prog 28 [] [.agg [.int .i64 s.1, .sl (.pair (.int .i64) (.pair (.int .i64) (.int .i64))) s.2], .sl (.int .i64) trace] [] (.tup [.bool r.1, .int .i64 r.2]) := by
 unfold linealref05_IsTrace at h
 refine zH Try.func28 [.tmp 4, .tmp 5] 28 ?_
 refine zo ?_
 refine zB [(1, .sl (.int .i64) trace), (2, .bp 2 0)] [(2, .box 24 [.int .i64 s.1, .sl (.pair (.int .i64) (.pair (.int .i64) (.int .i64))) s.2])] ?_
 refine AW.seq ?_
 refine zo ?_
 refine zS 1 [(1, .sl (.int .i64) trace), (2, .bp 2 0), (8, .agg [.int .i64 s.1, .sl (.pair (.int .i64) (.pair (.int .i64) (.int .i64))) s.2])] [(2, .box 24 [.int .i64 s.1, .sl (.pair (.int .i64) (.pair (.int .i64) (.int .i64))) s.2])] ?_
 obtain ⟨v0, hv1, h⟩ := Option.bind_eq_some_iff.1 h
 refine zC [] [] (hc_linealref05_Valid s hv1) [(1, .sl (.int .i64) trace), (2, .bp 2 0), (9, .bool v0)] [(2, .box 24 [.int .i64 s.1, .sl (.pair (.int .i64) (.pair (.int .i64) (.int .i64))) s.2])] ?_
 refine zB [(1, .sl (.int .i64) trace), (2, .bp 2 0), (10, .bool (!v0))] [(2, .box 24 [.int .i64 s.1, .sl (.pair (.int .i64) (.pair (.int .i64) (.int .i64))) s.2])] ?_
 refine zQ h (fun hb2 h => ?_) (fun hb2 h => ?_)
 ·refine zo ?_
  refine zB [(4, .bool false), (5, .int .i64 50)] [] ?_
  refine zr ?_
  obtain rfl := Option.some.inj h
  exact zR [] [] []
 ·refine zk ?_
  refine AW.have1 (fun _ : Unit => linealref05_IsTrace_k1 s trace = some r) (fun _ => ⟨fr [(1, .sl (.int .i64) trace), (2, .bp 2 0)], hpGet [(2, .box 24 [.int .i64 s.1, .sl (.pair (.int .i64) (.pair (.int .i64) (.int .i64))) s.2])], gt⟩) (fun _ h => ?_) (fun hk_linealref05_IsTrace_k1 => ?_)
  ·as_aux_lemma =>
    unfold linealref05_IsTrace_k1 at h
    refine AW.seq ?_
    refine zo ?_
    refine zB [(1, .sl (.int .i64) trace), (2, .bp 2 0), (23, .bool (decide (1000 < (trace.length : Int))))] [(2, .box 24 [.int .i64 s.1, .sl (.pair (.int .i64) (.pair (.int .i64) (.int .i64))) s.2])] ?_
    refine zQ h (fun hb3 h => ?_) (fun hb3 h => ?_)
    ·refine zo ?_
     refine zB [(4, .bool false), (5, .int .i64 2)] [] ?_
     refine zr ?_
     obtain rfl := Option.some.inj h
     exact zR [] [] []
    ·refine zk ?_
     refine zo ?_
     refine zS 2 [(24, .agg [.int .i64 s.1, .sl (.pair (.int .i64) (.pair (.int .i64) (.int .i64))) s.2]), (25, .sl (.int .i64) trace)] [] ?_
     obtain ⟨v0_3, hv4, h⟩ := Option.bind_eq_some_iff.1 h
     refine zC [] [] (hc_linealref05_behind s trace hv4) [(26, .int .i64 v0_3)] [] ?_
     refine zB [(4, .bool (!(decide (v0_3 = 0)))), (5, .int .i64 0)] [] ?_
     refine AW.ret ?_
     obtain rfl := Option.some.inj h
     exact zR [] [] []
  ·refine AW.seq ?_
   refine zo ?_
   refine zB [(1, .sl (.int .i64) trace), (2, .bp 2 0), (11, .sl (.int .i64) trace), (12, .int .i64 (trace.length : Int)), (13, .int .i64 0)] [(2, .box 24 [.int .i64 s.1, .sl (.pair (.int .i64) (.pair (.int .i64) (.int .i64))) s.2])] ?_
   refine AW.block ?_
   obtain ⟨rv9, hw5, ho6⟩ := Option.bind_eq_some_iff.1 h
   refine AW.loopO (linealref05_IsTrace_b1 trace) (fun st1 => ⟨fr [(1, .sl (.int .i64) trace), (2, .bp 2 0), (11, .sl (.int .i64) trace), (12, .int .i64 (trace.length : Int)), (13, .int .i64 st1)], hpGet [(2, .box 24 [.int .i64 s.1, .sl (.pair (.int .i64) (.pair (.int .i64) (.int .i64))) s.2])], gt⟩) 0 hw5 (zL [] [] []) ?_
   as_aux_lemma =>
    intro st1 x8 h hd7
    unfold linealref05_IsTrace_b1 at h
    refine zo ?_
    refine zB [(1, .sl (.int .i64) trace), (2, .bp 2 0), (11, .sl (.int .i64) trace), (12, .int .i64 (trace.length : Int)), (13, .int .i64 st1), (14, .bool (decide (st1 < (trace.length : Int))))] [(2, .box 24 [.int .i64 s.1, .sl (.pair (.int .i64) (.pair (.int .i64) (.int .i64))) s.2])] ?_
    refine AW.seq ?_
    refine zQ h (fun hb10 h => ?_) (fun hb10 h => ?_)
    ·refine zk ?_
     refine AW.seq ?_
     refine AW.block ?_
     refine zo ?_
     obtain ⟨c11, h⟩ := ck_some.1 h
     obtain ⟨c12, h⟩ := ck_some.1 h
     refine zB [(1, .sl (.int .i64) trace), (2, .bp 2 0), (7, .int .i64 (trace.getD st1.toNat 0)), (11, .sl (.int .i64) trace), (12, .int .i64 (trace.length : Int)), (13, .int .i64 st1)] [(2, .box 24 [.int .i64 s.1, .sl (.pair (.int .i64) (.pair (.int .i64) (.int .i64))) s.2])] ?_
     refine zo ?_
     refine zS 1 [(1, .sl (.int .i64) trace), (2, .bp 2 0), (11, .sl (.int .i64) trace), (12, .int .i64 (trace.length : Int)), (13, .int .i64 st1), (17, .int .i64 (trace.getD st1.toNat 0))] [(2, .box 24 [.int .i64 s.1, .sl (.pair (.int .i64) (.pair (.int .i64) (.int .i64))) s.2])] ?_
     obtain ⟨v0_2, hv13, h⟩ := Option.bind_eq_some_iff.1 h
     refine zC [] [] (hc_linealref05_IsSeen (trace.getD st1.toNat 0) hv13) [(1, .sl (.int .i64) trace), (2, .bp 2 0), (11, .sl (.int .i64) trace), (12, .int .i64 (trace.length : Int)), (13, .int .i64 st1), (18, .bool v0_2)] [(2, .box 24 [.int .i64 s.1, .sl (.pair (.int .i64) (.pair (.int .i64) (.int .i64))) s.2])] ?_
     refine zB [(1, .sl (.int .i64) trace), (2, .bp 2 0), (11, .sl (.int .i64) trace), (12, .int .i64 (trace.length : Int)), (13, .int .i64 st1), (19, .bool (!v0_2))] [(2, .box 24 [.int .i64 s.1, .sl (.pair (.int .i64) (.pair (.int .i64) (.int .i64))) s.2])] ?_
     refine zQ h (fun hb14 h => ?_) (fun hb14 h => ?_)
     ·refine zo ?_
      refine zB [(4, .bool false), (5, .int .i64 2)] [] ?_
      refine AW.ret ?_
      refine ablock_r ?_
      refine athen_r ?_
      obtain rfl := Option.some.inj h
      rw [← hd7 _ rfl] at ho6
      have h := ho6
      try simp only at h
      refine athen_r ?_
      refine ablock_r ?_
      refine athen_r ?_
      obtain rfl := Option.some.inj h
      exact zR [] [] []
     ·refine zm ?_
      refine athen_n ?_
      refine AW.ops ?_
      obtain ⟨c15, h⟩ := ck_some.1 h
      refine zA [(1, .sl (.int .i64) trace), (2, .bp 2 0), (11, .sl (.int .i64) trace), (12, .int .i64 (trace.length : Int)), (13, .int .i64 (st1 + 1))] [(2, .box 24 [.int .i64 s.1, .sl (.pair (.int .i64) (.pair (.int .i64) (.int .i64))) s.2])] ?_
      obtain rfl := Option.some.inj h
      exact ⟨_, rfl, zL [] [] []⟩
    ·refine AW.exit ?_
     refine athen_e ?_
     obtain rfl := Option.some.inj h
     rw [← hd7 _ rfl] at ho6
     have h := ho6
     try simp only at h
     refine athen_e ?_
     refine ablock_s ?_
     refine athen_n ?_
     exact AW.weaken (zL [] [] []) (hk_linealref05_IsTrace_k1 () h)

end Go.Proofs.Ytljonmpcehlpaaa
