/-
  Made by wip/tool/dc.py out of the print of the program: contracts.
-/
import Derived.Test.YtljonmpcehlpaaaRfp
import Derived.Test.YtljonmpcehlpaaaShr
import Derived.Test.YtljonmpcehlpaaaAvd
import Derived.Test.YtljonmpcehlpaaaNvc1
import Derived.Test.YtljonmpcehlpaaaNvc4
namespace Go.Proofs.Ytljonmpcehlpaaa
open Go.RowKit

set_option linter.unusedSimpArgs false
set_option linter.unusedVariables false
set_option linter.constructorNameAsVariable false

set_option maxRecDepth 100000
set_option maxHeartbeats 2000000

theorem hc_linealref05_comes (s : Int × (List (Int × Int × Int))) (set0 : Int) (label : Int) {r : Int} (h : linealref05_comes s set0 label = some r) : HC Try.prog 64 [] [.agg [.int .i64 s.1, .sl (.pair (.int .i64) (.pair (.int .i64) (.int .i64))) s.2], .int .i64 set0, .int .i64 label] [] (.int .i64 r) := by
 unfold linealref05_comes at h
 refine zH Try.func64 [.tmp 6] 20 ?_
 refine zo ?_
 refine zB [(1, .int .i64 set0), (2, .int .i64 label), (3, .bp 3 0)] [(3, .box 24 [.int .i64 s.1, .sl (.pair (.int .i64) (.pair (.int .i64) (.int .i64))) s.2])] ?_
 refine AW.seq ?_
 refine zo ?_
 refine zB [(1, .int .i64 set0), (2, .int .i64 label), (3, .bp 3 0), (8, .bool (decide (label = 0)))] [(3, .box 24 [.int .i64 s.1, .sl (.pair (.int .i64) (.pair (.int .i64) (.int .i64))) s.2])] ?_
 refine zQ h (fun hb1 h => ?_) (fun hb1 h => ?_)
 ·refine zo ?_
  refine zS 2 [(9, .agg [.int .i64 s.1, .sl (.pair (.int .i64) (.pair (.int .i64) (.int .i64))) s.2]), (10, .int .i64 set0)] [] ?_
  obtain ⟨v0, hv2, h⟩ := Option.bind_eq_some_iff.1 h
  refine zC [] [] (hc_linealref05_quiet s set0 hv2) [(11, .int .i64 v0)] [] ?_
  refine zB [(6, .int .i64 v0)] [] ?_
  refine zr ?_
  obtain rfl := Option.some.inj h
  exact zR [] [] []
 ·refine zk ?_
  refine AW.seq ?_
  refine AW.draw tab_ok mixed_ok [] [] (by decide) (lex_fast (by kernel_rfl)) ?_
  as_aux_lemma =>
   refine adops_cut 4 (fun K' hK3 => ?_)
   try dsimp only [List.drop_succ_cons, List.drop_zero, List.take_succ_cons, List.take_zero]
   simp only [go_sem, hb1]
   repeat with_reducible refine zN ?_
   refine hK3 _ ?_
   as_aux_lemma =>
    obtain ⟨v0_2, hv4, h⟩ := Option.bind_eq_some_iff.1 h
    refine adops.call (by first | trivial | rfl) rfl rfl rfl (fun _ h => h) [] [] (hc_linealref05_quiet s set0 hv4) rfl (by (simp only [go_sem, hb1]) <;> (with_reducible and_intros) <;> first | assumption | rfl | omega | (unfold maxLen; omega)) (by (simp only [go_sem, hb1]) <;> (with_reducible and_intros) <;> first | assumption | rfl | omega | (unfold maxLen; omega)) rfl ?_
    refine adops_cut 1 (fun K' hK5 => ?_)
    try dsimp only [List.drop_succ_cons, List.drop_zero, List.take_succ_cons, List.take_zero]
    simp only [go_sem, hb1]
    repeat with_reducible refine zN ?_
    refine hK5 _ ?_
    as_aux_lemma =>
     obtain ⟨v0_3, hv6, h⟩ := Option.bind_eq_some_iff.1 h
     refine adops.call (by first | trivial | rfl) rfl rfl rfl (fun _ h => h) [] [] (hc_linealref05_step s v0_2 label hv6) rfl (by (simp only [go_sem, hb1]) <;> (with_reducible and_intros) <;> first | assumption | rfl | omega | (unfold maxLen; omega)) (by (simp only [go_sem, hb1]) <;> (with_reducible and_intros) <;> first | assumption | rfl | omega | (unfold maxLen; omega)) rfl ?_
     obtain ⟨v0_4, hv7, h⟩ := Option.bind_eq_some_iff.1 h
     refine adops.call (by first | trivial | rfl) rfl rfl rfl (fun _ h => h) [] [] (hc_linealref05_quiet s v0_3 hv7) rfl (by (simp only [go_sem, hb1]) <;> (with_reducible and_intros) <;> first | assumption | rfl | omega | (unfold maxLen; omega)) (by (simp only [go_sem, hb1]) <;> (with_reducible and_intros) <;> first | assumption | rfl | omega | (unfold maxLen; omega)) rfl ?_
     refine adops_cut 1 (fun K' hK8 => ?_)
     try dsimp only [List.drop_succ_cons, List.drop_zero, List.take_succ_cons, List.take_zero]
     simp only [go_sem, hb1]
     repeat with_reducible refine zN ?_
     refine hK8 _ ?_
     refine adops_nil ?_
     refine athen_n ?_
     refine zV [(6, .int .i64 v0_4)] [] gt ?_
     as_aux_lemma =>
      refine AW.ret ?_
      obtain rfl := Option.some.inj h
      exact zR [] [] []

theorem hc_linealref05_behind (s : Int × (List (Int × Int × Int))) (trace : List Int) {r : Int} (h : linealref05_behind s trace = some r) : HC Try.prog 77 [] [.agg [.int .i64 s.1, .sl (.pair (.int .i64) (.pair (.int .i64) (.int .i64))) s.2], .sl (.int .i64) trace] [] (.int .i64 r) := by
 unfold linealref05_behind at h
 refine zH Try.func77 [.tmp 4] 22 ?_
 refine zo ?_
 refine zB [(1, .sl (.int .i64) trace), (2, .bp 2 0)] [(2, .box 24 [.int .i64 s.1, .sl (.pair (.int .i64) (.pair (.int .i64) (.int .i64))) s.2])] ?_
 refine zo ?_
 refine zS 1 [(1, .sl (.int .i64) trace), (2, .bp 2 0), (8, .agg [.int .i64 s.1, .sl (.pair (.int .i64) (.pair (.int .i64) (.int .i64))) s.2])] [(2, .box 24 [.int .i64 s.1, .sl (.pair (.int .i64) (.pair (.int .i64) (.int .i64))) s.2])] ?_
 obtain ⟨v0, hv1, h⟩ := Option.bind_eq_some_iff.1 h
 refine zC [] [] (hc_linealref05_quiet s 1 hv1) [(1, .sl (.int .i64) trace), (2, .bp 2 0), (9, .int .i64 v0)] [(2, .box 24 [.int .i64 s.1, .sl (.pair (.int .i64) (.pair (.int .i64) (.int .i64))) s.2])] ?_
 refine zB [(1, .sl (.int .i64) trace), (2, .bp 2 0), (5, .int .i64 v0)] [(2, .box 24 [.int .i64 s.1, .sl (.pair (.int .i64) (.pair (.int .i64) (.int .i64))) s.2])] ?_
 refine AW.have1 (fun b1 : Int => linealref05_behind_k1 b1 = some r) (fun b1 => ⟨fr [(5, .int .i64 b1)], hpGet [], gt⟩) (fun b1 h => ?_) (fun hk_linealref05_behind_k1 => ?_)
 ·as_aux_lemma =>
   unfold linealref05_behind_k1 at h
   refine zo ?_
   refine zB [(4, .int .i64 b1)] [] ?_
   refine AW.ret ?_
   obtain rfl := Option.some.inj h
   exact zR [] [] []
 ·refine AW.seq ?_
  refine zo ?_
  refine zB [(2, .bp 2 0), (5, .int .i64 v0), (10, .sl (.int .i64) trace), (11, .int .i64 (trace.length : Int)), (12, .int .i64 0)] [(2, .box 24 [.int .i64 s.1, .sl (.pair (.int .i64) (.pair (.int .i64) (.int .i64))) s.2])] ?_
  refine AW.block ?_
  obtain ⟨rv6, hw2, ho3⟩ := Option.bind_eq_some_iff.1 h
  refine AW.loopO (linealref05_behind_b1 s trace) (fun st1 => ⟨fr [(2, .bp 2 0), (5, .int .i64 st1.1), (10, .sl (.int .i64) trace), (11, .int .i64 (trace.length : Int)), (12, .int .i64 st1.2)], hpGet [(2, .box 24 [.int .i64 s.1, .sl (.pair (.int .i64) (.pair (.int .i64) (.int .i64))) s.2])], gt⟩) (v0, 0) hw2 (zL [] [] []) ?_
  as_aux_lemma =>
   intro st1 x5 h hd4
   unfold linealref05_behind_b1 at h
   refine zo ?_
   refine zB [(2, .bp 2 0), (5, .int .i64 st1.1), (10, .sl (.int .i64) trace), (11, .int .i64 (trace.length : Int)), (12, .int .i64 st1.2), (13, .bool (decide (st1.2 < (trace.length : Int))))] [(2, .box 24 [.int .i64 s.1, .sl (.pair (.int .i64) (.pair (.int .i64) (.int .i64))) s.2])] ?_
   refine AW.seq ?_
   refine zQ h (fun hb7 h => ?_) (fun hb7 h => ?_)
   ·refine zk ?_
    refine AW.seq ?_
    refine AW.block ?_
    refine zo ?_
    obtain ⟨c8, h⟩ := ck_some.1 h
    obtain ⟨c9, h⟩ := ck_some.1 h
    refine zB [(2, .bp 2 0), (5, .int .i64 st1.1), (7, .int .i64 (trace.getD st1.2.toNat 0)), (10, .sl (.int .i64) trace), (11, .int .i64 (trace.length : Int)), (12, .int .i64 st1.2)] [(2, .box 24 [.int .i64 s.1, .sl (.pair (.int .i64) (.pair (.int .i64) (.int .i64))) s.2])] ?_
    refine AW.ops ?_
    refine zS 3 [(2, .bp 2 0), (10, .sl (.int .i64) trace), (11, .int .i64 (trace.length : Int)), (12, .int .i64 st1.2), (16, .agg [.int .i64 s.1, .sl (.pair (.int .i64) (.pair (.int .i64) (.int .i64))) s.2]), (17, .int .i64 st1.1), (18, .int .i64 (trace.getD st1.2.toNat 0))] [(2, .box 24 [.int .i64 s.1, .sl (.pair (.int .i64) (.pair (.int .i64) (.int .i64))) s.2])] ?_
    obtain ⟨v0_2, hv10, h⟩ := Option.bind_eq_some_iff.1 h
    refine zC [] [] (hc_linealref05_comes s st1.1 (trace.getD st1.2.toNat 0) hv10) [(2, .bp 2 0), (10, .sl (.int .i64) trace), (11, .int .i64 (trace.length : Int)), (12, .int .i64 st1.2), (19, .int .i64 v0_2)] [(2, .box 24 [.int .i64 s.1, .sl (.pair (.int .i64) (.pair (.int .i64) (.int .i64))) s.2])] ?_
    refine zA [(2, .bp 2 0), (5, .int .i64 v0_2), (10, .sl (.int .i64) trace), (11, .int .i64 (trace.length : Int)), (12, .int .i64 st1.2)] [(2, .box 24 [.int .i64 s.1, .sl (.pair (.int .i64) (.pair (.int .i64) (.int .i64))) s.2])] ?_
    refine ablock_n ?_
    refine athen_n ?_
    refine AW.ops ?_
    obtain ⟨c11, h⟩ := ck_some.1 h
    refine zA [(2, .bp 2 0), (5, .int .i64 v0_2), (10, .sl (.int .i64) trace), (11, .int .i64 (trace.length : Int)), (12, .int .i64 (st1.2 + 1))] [(2, .box 24 [.int .i64 s.1, .sl (.pair (.int .i64) (.pair (.int .i64) (.int .i64))) s.2])] ?_
    obtain rfl := Option.some.inj h
    exact ⟨_, rfl, zL [] [] []⟩
   ·refine AW.exit ?_
    refine athen_e ?_
    obtain rfl := Option.some.inj h
    rw [← hd4 _ rfl] at ho3
    have h := ho3
    refine athen_e ?_
    refine ablock_s ?_
    refine athen_n ?_
    exact AW.weaken (zL [] [] []) (hk_linealref05_behind_k1 _ h)

theorem hc_linealref05_Same (a : Int × (List (Int × Int × Int))) (b : Int × (List (Int × Int × Int))) {r : Bool} (h : linealref05_Same a b = some r) : HC Try.prog 47 [] [.agg [.int .i64 a.1, .sl (.pair (.int .i64) (.pair (.int .i64) (.int .i64))) a.2], .agg [.int .i64 b.1, .sl (.pair (.int .i64) (.pair (.int .i64) (.int .i64))) b.2]] [] (.bool r) := by
 unfold linealref05_Same at h
 refine zH Try.func47 [.tmp 4] 38 ?_
 refine zo ?_
 refine zB [(2, .bp 2 0), (3, .bp 3 0)] [(2, .box 24 [.int .i64 a.1, .sl (.pair (.int .i64) (.pair (.int .i64) (.int .i64))) a.2]), (3, .box 24 [.int .i64 b.1, .sl (.pair (.int .i64) (.pair (.int .i64) (.int .i64))) b.2])] ?_
 refine AW.seq ?_
 refine zo ?_
 refine zS 5 [(2, .bp 2 0), (3, .bp 3 0), (10, .bool (!(decide (a.1 = b.1))))] [(2, .box 24 [.int .i64 a.1, .sl (.pair (.int .i64) (.pair (.int .i64) (.int .i64))) a.2]), (3, .box 24 [.int .i64 b.1, .sl (.pair (.int .i64) (.pair (.int .i64) (.int .i64))) b.2])] ?_
 refine zS 1 [(2, .bp 2 0), (3, .bp 3 0), (11, .bool (!(decide (a.1 = b.1))))] [(2, .box 24 [.int .i64 a.1, .sl (.pair (.int .i64) (.pair (.int .i64) (.int .i64))) a.2]), (3, .box 24 [.int .i64 b.1, .sl (.pair (.int .i64) (.pair (.int .i64) (.int .i64))) b.2])] ?_
 rcases zI h with ⟨hb1, h⟩ | ⟨hb1, h⟩
 ·refine zS 4 [(2, .bp 2 0), (3, .bp 3 0), (11, .bool true), (14, .cv (undef)), (15, .cv (undef))] [(2, .box 24 [.int .i64 a.1, .sl (.pair (.int .i64) (.pair (.int .i64) (.int .i64))) a.2]), (3, .box 24 [.int .i64 b.1, .sl (.pair (.int .i64) (.pair (.int .i64) (.int .i64))) b.2])] ?_
  refine zB [(2, .bp 2 0), (3, .bp 3 0), (19, .bool true)] [(2, .box 24 [.int .i64 a.1, .sl (.pair (.int .i64) (.pair (.int .i64) (.int .i64))) a.2]), (3, .box 24 [.int .i64 b.1, .sl (.pair (.int .i64) (.pair (.int .i64) (.int .i64))) b.2])] ?_
  refine AW.cond (b := true) rfl (fun _ => ?_) (fun hb2 => by cases hb2)
  refine zo ?_
  refine zB [(4, .bool false)] [] ?_
  refine zr ?_
  obtain rfl := Option.some.inj h
  exact zR [] [] []
 ·refine zS 5 [(2, .bp 2 0), (3, .bp 3 0), (11, .bool false), (14, .int .i64 (a.2.length : Int)), (16, .sl (.pair (.int .i64) (.pair (.int .i64) (.int .i64))) b.2)] [(2, .box 24 [.int .i64 a.1, .sl (.pair (.int .i64) (.pair (.int .i64) (.int .i64))) a.2]), (3, .box 24 [.int .i64 b.1, .sl (.pair (.int .i64) (.pair (.int .i64) (.int .i64))) b.2])] ?_
  refine zB [(2, .bp 2 0), (3, .bp 3 0), (19, .bool (!(decide ((a.2.length : Int) = (b.2.length : Int)))))] [(2, .box 24 [.int .i64 a.1, .sl (.pair (.int .i64) (.pair (.int .i64) (.int .i64))) a.2]), (3, .box 24 [.int .i64 b.1, .sl (.pair (.int .i64) (.pair (.int .i64) (.int .i64))) b.2])] ?_
  refine zQ h (fun hb3 h => ?_) (fun hb3 h => ?_)
  ·refine zo ?_
   refine zB [(4, .bool false)] [] ?_
   refine zr ?_
   obtain rfl := Option.some.inj h
   exact zR [] [] []
  ·refine zk ?_
   refine AW.have1 (fun _ : Unit => linealref05_Same_k1 = some r) (fun _ => ⟨fr [], hpGet [], gt⟩) (fun _ h => ?_) (fun hk_linealref05_Same_k1 => ?_)
   ·as_aux_lemma =>
     unfold linealref05_Same_k1 at h
     refine zo ?_
     refine zB [(4, .bool true)] [] ?_
     refine AW.ret ?_
     obtain rfl := Option.some.inj h
     exact zR [] [] []
   ·refine AW.seq ?_
    refine zo ?_
    refine zB [(2, .bp 2 0), (3, .bp 3 0), (22, .int .i64 (a.2.length : Int)), (23, .int .i64 0)] [(2, .box 24 [.int .i64 a.1, .sl (.pair (.int .i64) (.pair (.int .i64) (.int .i64))) a.2]), (3, .box 24 [.int .i64 b.1, .sl (.pair (.int .i64) (.pair (.int .i64) (.int .i64))) b.2])] ?_
    refine AW.block ?_
    obtain ⟨rv8, hw4, ho5⟩ := Option.bind_eq_some_iff.1 h
    refine AW.loopO (linealref05_Same_b1 a b) (fun st1 => ⟨fr [(2, .bp 2 0), (3, .bp 3 0), (22, .int .i64 (a.2.length : Int)), (23, .int .i64 st1)], hpGet [(2, .box 24 [.int .i64 a.1, .sl (.pair (.int .i64) (.pair (.int .i64) (.int .i64))) a.2]), (3, .box 24 [.int .i64 b.1, .sl (.pair (.int .i64) (.pair (.int .i64) (.int .i64))) b.2])], gt⟩) 0 hw4 (zL [] [] []) ?_
    as_aux_lemma =>
     intro st1 x7 h hd6
     unfold linealref05_Same_b1 at h
     refine zo ?_
     refine zB [(2, .bp 2 0), (3, .bp 3 0), (22, .int .i64 (a.2.length : Int)), (23, .int .i64 st1), (24, .bool (decide (st1 < (a.2.length : Int))))] [(2, .box 24 [.int .i64 a.1, .sl (.pair (.int .i64) (.pair (.int .i64) (.int .i64))) a.2]), (3, .box 24 [.int .i64 b.1, .sl (.pair (.int .i64) (.pair (.int .i64) (.int .i64))) b.2])] ?_
     refine AW.seq ?_
     refine zQ h (fun hb9 h => ?_) (fun hb9 h => ?_)
     ·refine zk ?_
      refine AW.seq ?_
      refine AW.block ?_
      refine zo ?_
      refine zB [(2, .bp 2 0), (3, .bp 3 0), (5, .int .i64 st1), (22, .int .i64 (a.2.length : Int)), (23, .int .i64 st1)] [(2, .box 24 [.int .i64 a.1, .sl (.pair (.int .i64) (.pair (.int .i64) (.int .i64))) a.2]), (3, .box 24 [.int .i64 b.1, .sl (.pair (.int .i64) (.pair (.int .i64) (.int .i64))) b.2])] ?_
      refine AW.seq ?_
      refine AW.drawTail tab_ok mixed_ok 10 [] [] (by decide) (by kernel_rfl) (by kernel_rfl) (by decide) ?_
      dsimp only [List.take_succ_cons, List.take_zero]
      obtain ⟨c11, h⟩ := ck_some.1 h
      obtain ⟨c12, h⟩ := ck_some.1 h
      refine adops_cut 6 (fun K' hK10 => ?_)
      try dsimp only [List.drop_succ_cons, List.drop_zero, List.take_succ_cons, List.take_zero]
      simp only [go_sem, hb1, hb3, hb9]
      repeat with_reducible refine zN ?_
      refine hK10 _ ?_
      as_aux_lemma =>
       obtain ⟨c14, h⟩ := ck_some.1 h
       obtain ⟨c15, h⟩ := ck_some.1 h
       refine adops_cut 4 (fun K' hK13 => ?_)
       try dsimp only [List.drop_succ_cons, List.drop_zero, List.take_succ_cons, List.take_zero]
       simp only [go_sem, hb1, hb3, hb9]
       repeat with_reducible refine zN ?_
       refine hK13 _ ?_
       refine adops_nil ?_
       refine zT [(2, .bp 2 0), (3, .bp 3 0), (22, .int .i64 (a.2.length : Int)), (23, .int .i64 st1), (30, .agg [.int .i64 (a.2.getD st1.toNat (0, 0, 0)).1, .int .i64 (a.2.getD st1.toNat (0, 0, 0)).2.1, .int .i64 (a.2.getD st1.toNat (0, 0, 0)).2.2]), (35, .agg [.int .i64 (b.2.getD st1.toNat (0, 0, 0)).1, .int .i64 (b.2.getD st1.toNat (0, 0, 0)).2.1, .int .i64 (b.2.getD st1.toNat (0, 0, 0)).2.2])] [(2, .box 24 [.int .i64 a.1, .sl (.pair (.int .i64) (.pair (.int .i64) (.int .i64))) a.2]), (3, .box 24 [.int .i64 b.1, .sl (.pair (.int .i64) (.pair (.int .i64) (.int .i64))) b.2])] gt ?_
       obtain ⟨c16, h⟩ := ck_some.1 h
       obtain ⟨c17, h⟩ := ck_some.1 h
       obtain ⟨c18, h⟩ := ck_some.1 h
       obtain ⟨c19, h⟩ := ck_some.1 h
       obtain ⟨c20, h⟩ := ck_some.1 h
       obtain ⟨c21, h⟩ := ck_some.1 h
       refine AO.aggEq (neg := true) eqty_66 (by decide) rfl rfl (lx := [.int .i64 (a.2.getD st1.toNat (0, 0, 0)).1, .int .i64 (a.2.getD st1.toNat (0, 0, 0)).2.1, .int .i64 (a.2.getD st1.toNat (0, 0, 0)).2.2]) (ly := [.int .i64 (b.2.getD st1.toNat (0, 0, 0)).1, .int .i64 (b.2.getD st1.toNat (0, 0, 0)).2.1, .int .i64 (b.2.getD st1.toNat (0, 0, 0)).2.2]) (by first | rfl | (simp only [go_sem, hb1, hb3, hb9]) <;> (with_reducible and_intros) <;> first | assumption | rfl | omega | (unfold maxLen; omega)) (by first | rfl | (simp only [go_sem, hb1, hb3, hb9]) <;> (with_reducible and_intros) <;> first | assumption | rfl | omega | (unfold maxLen; omega)) (by first | rfl | (simp only [go_sem, hb1, hb3, hb9]) <;> (with_reducible and_intros) <;> first | assumption | rfl | omega | (unfold maxLen; omega)) (by first | rfl | (simp only [go_sem, hb1, hb3, hb9]) <;> (with_reducible and_intros) <;> first | assumption | rfl | omega | (unfold maxLen; omega)) (by first | assumption | omega | (simp only [go_sem, hb1, hb3, hb9]) <;> (with_reducible and_intros) <;> first | assumption | rfl | omega | (unfold maxLen; omega)) (by first | assumption | omega | (simp only [go_sem, hb1, hb3, hb9]) <;> (with_reducible and_intros) <;> first | assumption | rfl | omega | (unfold maxLen; omega)) ?_
       refine zT [(2, .bp 2 0), (3, .bp 3 0), (22, .int .i64 (a.2.length : Int)), (23, .int .i64 st1), (36, .bool (!(decide ((a.2.getD st1.toNat (0, 0, 0)) = (b.2.getD st1.toNat (0, 0, 0))))))] [(2, .box 24 [.int .i64 a.1, .sl (.pair (.int .i64) (.pair (.int .i64) (.int .i64))) a.2]), (3, .box 24 [.int .i64 b.1, .sl (.pair (.int .i64) (.pair (.int .i64) (.int .i64))) b.2])] gt ?_
       refine zB [(2, .bp 2 0), (3, .bp 3 0), (22, .int .i64 (a.2.length : Int)), (23, .int .i64 st1), (36, .bool (!(decide ((a.2.getD st1.toNat (0, 0, 0)) = (b.2.getD st1.toNat (0, 0, 0))))))] [(2, .box 24 [.int .i64 a.1, .sl (.pair (.int .i64) (.pair (.int .i64) (.int .i64))) a.2]), (3, .box 24 [.int .i64 b.1, .sl (.pair (.int .i64) (.pair (.int .i64) (.int .i64))) b.2])] ?_
       refine zQ h (fun hb22 h => ?_) (fun hb22 h => ?_)
       ·refine zo ?_
        refine zB [(4, .bool false)] [] ?_
        refine AW.ret ?_
        refine ablock_r ?_
        refine athen_r ?_
        obtain rfl := Option.some.inj h
        rw [← hd6 _ rfl] at ho5
        have h := ho5
        try simp only at h
        refine athen_r ?_
        refine ablock_r ?_
        refine athen_r ?_
        obtain rfl := Option.some.inj h
        exact zR [] [] []
       ·refine zm ?_
        refine athen_n ?_
        refine AW.ops ?_
        obtain ⟨c23, h⟩ := ck_some.1 h
        refine zA [(2, .bp 2 0), (3, .bp 3 0), (22, .int .i64 (a.2.length : Int)), (23, .int .i64 (st1 + 1))] [(2, .box 24 [.int .i64 a.1, .sl (.pair (.int .i64) (.pair (.int .i64) (.int .i64))) a.2]), (3, .box 24 [.int .i64 b.1, .sl (.pair (.int .i64) (.pair (.int .i64) (.int .i64))) b.2])] ?_
        obtain rfl := Option.some.inj h
        exact ⟨_, rfl, zL [] [] []⟩
     ·refine AW.exit ?_
      refine athen_e ?_
      obtain rfl := Option.some.inj h
      rw [← hd6 _ rfl] at ho5
      have h := ho5
      try simp only at h
      refine athen_e ?_
      refine ablock_s ?_
      refine athen_n ?_
      exact AW.weaken (zL [] [] []) (hk_linealref05_Same_k1 () h)

theorem hc_refine_isPlain_1 (other : Int × Int × Int) (a1 : Int × Int × Int) {r : Bool} (h : refine_isPlain_1 other a1 = some r) : HC Try.prog 117 [(1000, .box 66 [.int .i64 a1.1, .int .i64 a1.2.1, .int .i64 a1.2.2])] [.agg [.int .i64 other.1, .int .i64 other.2.1, .int .i64 other.2.2], .bp 1000 0] [(1000, .box 66 [.int .i64 a1.1, .int .i64 a1.2.1, .int .i64 a1.2.2])] (.bool r) := by
 unfold refine_isPlain_1 at h
 refine zH Try.func117 [.tmp 3] 16 ?_
 refine zo ?_
 refine zB [(1, .bp 1000 0), (2, .bp 2 0)] [(2, .box 66 [.int .i64 other.1, .int .i64 other.2.1, .int .i64 other.2.2]), (1000, .box 66 [.int .i64 a1.1, .int .i64 a1.2.1, .int .i64 a1.2.2])] ?_
 refine zo ?_
 refine zS 5 [(1, .bp 1000 0), (2, .bp 2 0), (8, .bool (decide (other.1 = a1.1)))] [(2, .box 66 [.int .i64 other.1, .int .i64 other.2.1, .int .i64 other.2.2]), (1000, .box 66 [.int .i64 a1.1, .int .i64 a1.2.1, .int .i64 a1.2.2])] ?_
 refine zS 1 [(1, .bp 1000 0), (2, .bp 2 0), (9, .bool (decide (other.1 = a1.1)))] [(2, .box 66 [.int .i64 other.1, .int .i64 other.2.1, .int .i64 other.2.2]), (1000, .box 66 [.int .i64 a1.1, .int .i64 a1.2.1, .int .i64 a1.2.2])] ?_
 rcases zI h with ⟨hb1, h⟩ | ⟨hb1, h⟩
 ·refine zS 5 [(9, .bool true), (14, .bool (decide (other.2.1 = a1.2.1)))] [(1000, .box 66 [.int .i64 a1.1, .int .i64 a1.2.1, .int .i64 a1.2.2])] ?_
  refine zB [(3, .bool (decide (other.2.1 = a1.2.1)))] [(1000, .box 66 [.int .i64 a1.1, .int .i64 a1.2.1, .int .i64 a1.2.2])] ?_
  refine AW.ret ?_
  obtain rfl := Option.some.inj h
  exact zR [] [] []
 ·refine zS 4 [(9, .bool false), (11, .cv (undef)), (13, .cv (undef))] [(1000, .box 66 [.int .i64 a1.1, .int .i64 a1.2.1, .int .i64 a1.2.2])] ?_
  refine zB [(3, .bool false)] [(1000, .box 66 [.int .i64 a1.1, .int .i64 a1.2.1, .int .i64 a1.2.2])] ?_
  refine AW.ret ?_
  obtain rfl := Option.some.inj h
  exact zR [] [] []

theorem hc_slices_IndexFunc_2 (s : List (Int × Int × Int)) (c0 : Int × Int × Int) {r : Int} (h : slices_IndexFunc_2 s c0 = some r) : HC Try.prog 127 [(1000, .box 66 [.int .i64 c0.1, .int .i64 c0.2.1, .int .i64 c0.2.2])] [.sl (.pair (.int .i64) (.pair (.int .i64) (.int .i64))) s, .fn (.func 117) [] [.bp 1000 0]] [(1000, .box 66 [.int .i64 c0.1, .int .i64 c0.2.1, .int .i64 c0.2.2])] (.int .i64 r) := by
 unfold slices_IndexFunc_2 at h
 refine zH Try.func127 [.tmp 4] 19 ?_
 refine zo ?_
 refine zB [(0, .sl (.pair (.int .i64) (.pair (.int .i64) (.int .i64))) s), (1, .fn (.func 117) [] [.bp 1000 0])] [(1000, .box 66 [.int .i64 c0.1, .int .i64 c0.2.1, .int .i64 c0.2.2])] ?_
 refine AW.have1 (fun _ : Unit => slices_IndexFunc_2_k1 = some r) (fun _ => ⟨fr [], hpGet [(1000, .box 66 [.int .i64 c0.1, .int .i64 c0.2.1, .int .i64 c0.2.2])], gt⟩) (fun _ h => ?_) (fun hk_slices_IndexFunc_2_k1 => ?_)
 ·as_aux_lemma =>
   unfold slices_IndexFunc_2_k1 at h
   refine zo ?_
   refine zB [(4, .int .i64 (-1))] [(1000, .box 66 [.int .i64 c0.1, .int .i64 c0.2.1, .int .i64 c0.2.2])] ?_
   refine AW.ret ?_
   obtain rfl := Option.some.inj h
   exact zR [] [] []
 ·refine AW.seq ?_
  refine zo ?_
  refine zB [(0, .sl (.pair (.int .i64) (.pair (.int .i64) (.int .i64))) s), (1, .fn (.func 117) [] [.bp 1000 0]), (7, .int .i64 (s.length : Int)), (8, .int .i64 0)] [(1000, .box 66 [.int .i64 c0.1, .int .i64 c0.2.1, .int .i64 c0.2.2])] ?_
  refine AW.block ?_
  obtain ⟨rv5, hw1, ho2⟩ := Option.bind_eq_some_iff.1 h
  refine AW.loopO (slices_IndexFunc_2_b1 s c0) (fun st1 => ⟨fr [(0, .sl (.pair (.int .i64) (.pair (.int .i64) (.int .i64))) s), (1, .fn (.func 117) [] [.bp 1000 0]), (7, .int .i64 (s.length : Int)), (8, .int .i64 st1)], hpGet [(1000, .box 66 [.int .i64 c0.1, .int .i64 c0.2.1, .int .i64 c0.2.2])], gt⟩) 0 hw1 (zL [] [] []) ?_
  as_aux_lemma =>
   intro st1 x4 h hd3
   unfold slices_IndexFunc_2_b1 at h
   refine zo ?_
   refine zB [(0, .sl (.pair (.int .i64) (.pair (.int .i64) (.int .i64))) s), (1, .fn (.func 117) [] [.bp 1000 0]), (7, .int .i64 (s.length : Int)), (8, .int .i64 st1), (9, .bool (decide (st1 < (s.length : Int))))] [(1000, .box 66 [.int .i64 c0.1, .int .i64 c0.2.1, .int .i64 c0.2.2])] ?_
   refine AW.seq ?_
   refine zQ h (fun hb6 h => ?_) (fun hb6 h => ?_)
   ·refine zk ?_
    refine AW.seq ?_
    refine AW.block ?_
    refine zo ?_
    refine zB [(0, .sl (.pair (.int .i64) (.pair (.int .i64) (.int .i64))) s), (1, .fn (.func 117) [] [.bp 1000 0]), (5, .int .i64 st1), (7, .int .i64 (s.length : Int)), (8, .int .i64 st1)] [(1000, .box 66 [.int .i64 c0.1, .int .i64 c0.2.1, .int .i64 c0.2.2])] ?_
    refine zo ?_
    obtain ⟨c7, h⟩ := ck_some.1 h
    obtain ⟨c8, h⟩ := ck_some.1 h
    refine zS 5 [(0, .sl (.pair (.int .i64) (.pair (.int .i64) (.int .i64))) s), (1, .fn (.func 117) [] [.bp 1000 0]), (5, .int .i64 st1), (7, .int .i64 (s.length : Int)), (8, .int .i64 st1), (11, .fn (.func 117) [] [.bp 1000 0]), (15, .agg [.int .i64 (s.getD st1.toNat (0, 0, 0)).1, .int .i64 (s.getD st1.toNat (0, 0, 0)).2.1, .int .i64 (s.getD st1.toNat (0, 0, 0)).2.2])] [(1000, .box 66 [.int .i64 c0.1, .int .i64 c0.2.1, .int .i64 c0.2.2])] ?_
    obtain ⟨v0, hv9, h⟩ := Option.bind_eq_some_iff.1 h
    refine zC [] [(1000, 1000)] (hc_refine_isPlain_1 (s.getD st1.toNat (0, 0, 0)) c0 hv9) [(0, .sl (.pair (.int .i64) (.pair (.int .i64) (.int .i64))) s), (1, .fn (.func 117) [] [.bp 1000 0]), (5, .int .i64 st1), (7, .int .i64 (s.length : Int)), (8, .int .i64 st1), (16, .bool v0)] [(1000, .box 66 [.int .i64 c0.1, .int .i64 c0.2.1, .int .i64 c0.2.2])] ?_
    refine zB [(0, .sl (.pair (.int .i64) (.pair (.int .i64) (.int .i64))) s), (1, .fn (.func 117) [] [.bp 1000 0]), (5, .int .i64 st1), (7, .int .i64 (s.length : Int)), (8, .int .i64 st1), (16, .bool v0)] [(1000, .box 66 [.int .i64 c0.1, .int .i64 c0.2.1, .int .i64 c0.2.2])] ?_
    refine zQ h (fun hb10 h => ?_) (fun hb10 h => ?_)
    ·refine zo ?_
     refine zB [(4, .int .i64 st1)] [(1000, .box 66 [.int .i64 c0.1, .int .i64 c0.2.1, .int .i64 c0.2.2])] ?_
     refine AW.ret ?_
     refine ablock_r ?_
     refine athen_r ?_
     obtain rfl := Option.some.inj h
     rw [← hd3 _ rfl] at ho2
     have h := ho2
     try simp only at h
     refine athen_r ?_
     refine ablock_r ?_
     refine athen_r ?_
     obtain rfl := Option.some.inj h
     exact zR [] [] []
    ·refine zm ?_
     refine athen_n ?_
     refine AW.ops ?_
     obtain ⟨c11, h⟩ := ck_some.1 h
     refine zA [(0, .sl (.pair (.int .i64) (.pair (.int .i64) (.int .i64))) s), (1, .fn (.func 117) [] [.bp 1000 0]), (7, .int .i64 (s.length : Int)), (8, .int .i64 (st1 + 1))] [(1000, .box 66 [.int .i64 c0.1, .int .i64 c0.2.1, .int .i64 c0.2.2])] ?_
     obtain rfl := Option.some.inj h
     exact ⟨_, rfl, zL [] [] []⟩
   ·refine AW.exit ?_
    refine athen_e ?_
    obtain rfl := Option.some.inj h
    rw [← hd3 _ rfl] at ho2
    have h := ho2
    try simp only at h
    refine athen_e ?_
    refine ablock_s ?_
    refine athen_n ?_
    exact AW.weaken (zL [] [] []) (hk_slices_IndexFunc_2_k1 () h)

theorem hc_slices_ContainsFunc_2 (s : List (Int × Int × Int)) (c0 : Int × Int × Int) {r : Bool} (h : slices_ContainsFunc_2 s c0 = some r) : HC Try.prog 106 [(1000, .box 66 [.int .i64 c0.1, .int .i64 c0.2.1, .int .i64 c0.2.2])] [.sl (.pair (.int .i64) (.pair (.int .i64) (.int .i64))) s, .fn (.func 117) [] [.bp 1000 0]] [(1000, .box 66 [.int .i64 c0.1, .int .i64 c0.2.1, .int .i64 c0.2.2])] (.bool r) := by
 unfold slices_ContainsFunc_2 at h
 refine zH Try.func106 [.tmp 4] 9 ?_
 refine zo ?_
 refine zB [(0, .sl (.pair (.int .i64) (.pair (.int .i64) (.int .i64))) s), (1, .fn (.func 117) [] [.bp 1000 0])] [(1000, .box 66 [.int .i64 c0.1, .int .i64 c0.2.1, .int .i64 c0.2.2])] ?_
 refine zo ?_
 refine zS 2 [(5, .sl (.pair (.int .i64) (.pair (.int .i64) (.int .i64))) s), (6, .fn (.func 117) [] [.bp 1000 0])] [(1000, .box 66 [.int .i64 c0.1, .int .i64 c0.2.1, .int .i64 c0.2.2])] ?_
 obtain ⟨v0, hv1, h⟩ := Option.bind_eq_some_iff.1 h
 refine zC [] [(1000, 1000)] (hc_slices_IndexFunc_2 s c0 hv1) [(7, .int .i64 v0)] [(1000, .box 66 [.int .i64 c0.1, .int .i64 c0.2.1, .int .i64 c0.2.2])] ?_
 refine zB [(4, .bool (decide (0 ≤ v0)))] [(1000, .box 66 [.int .i64 c0.1, .int .i64 c0.2.1, .int .i64 c0.2.2])] ?_
 refine AW.ret ?_
 obtain rfl := Option.some.inj h
 exact zR [] [] []

theorem hc_refine_isPlain (steps : List (Int × Int × Int)) {r : Bool} (h : refine_isPlain steps = some r) : HC Try.prog 93 [] [.sl (.pair (.int .i64) (.pair (.int .i64) (.int .i64))) steps] [] (.bool r) := by
 unfold refine_isPlain at h
 refine zH Try.func93 [.tmp 2] 25 ?_
 refine zo ?_
 refine zB [(0, .sl (.pair (.int .i64) (.pair (.int .i64) (.int .i64))) steps)] [] ?_
 refine AW.have1 (fun _ : Unit => refine_isPlain_k1 = some r) (fun _ => ⟨fr [], hpGet [], gt⟩) (fun _ h => ?_) (fun hk_refine_isPlain_k1 => ?_)
 ·as_aux_lemma =>
   unfold refine_isPlain_k1 at h
   refine zo ?_
   refine zB [(2, .bool true)] [] ?_
   refine AW.ret ?_
   obtain rfl := Option.some.inj h
   exact zR [] [] []
 ·refine AW.seq ?_
  refine zo ?_
  refine zB [(0, .sl (.pair (.int .i64) (.pair (.int .i64) (.int .i64))) steps), (6, .sl (.pair (.int .i64) (.pair (.int .i64) (.int .i64))) steps), (7, .int .i64 (steps.length : Int)), (8, .int .i64 0)] [] ?_
  refine AW.block ?_
  obtain ⟨rv5, hw1, ho2⟩ := Option.bind_eq_some_iff.1 h
  refine AW.loopO (refine_isPlain_b1 steps) (fun st1 => ⟨fr [(0, .sl (.pair (.int .i64) (.pair (.int .i64) (.int .i64))) steps), (6, .sl (.pair (.int .i64) (.pair (.int .i64) (.int .i64))) steps), (7, .int .i64 (steps.length : Int)), (8, .int .i64 st1)], hpGet [], gt⟩) 0 hw1 (zL [] [] []) ?_
  as_aux_lemma =>
   intro st1 x4 h hd3
   unfold refine_isPlain_b1 at h
   refine zo ?_
   refine zB [(0, .sl (.pair (.int .i64) (.pair (.int .i64) (.int .i64))) steps), (6, .sl (.pair (.int .i64) (.pair (.int .i64) (.int .i64))) steps), (7, .int .i64 (steps.length : Int)), (8, .int .i64 st1), (9, .bool (decide (st1 < (steps.length : Int))))] [] ?_
   refine AW.seq ?_
   refine zQ h (fun hb6 h => ?_) (fun hb6 h => ?_)
   ·refine zk ?_
    refine AW.seq ?_
    refine AW.block ?_
    refine zo ?_
    obtain ⟨c7, h⟩ := ck_some.1 h
    obtain ⟨c8, h⟩ := ck_some.1 h
    refine zS 5 [(0, .sl (.pair (.int .i64) (.pair (.int .i64) (.int .i64))) steps), (3, .int .i64 st1), (4, .bp 4 0), (6, .sl (.pair (.int .i64) (.pair (.int .i64) (.int .i64))) steps), (7, .int .i64 (steps.length : Int)), (8, .int .i64 st1), (12, .agg [.int .i64 (steps.getD st1.toNat (0, 0, 0)).1, .int .i64 (steps.getD st1.toNat (0, 0, 0)).2.1, .int .i64 (steps.getD st1.toNat (0, 0, 0)).2.2])] [(4, .box 66 [.int .i64 0, .int .i64 0, .int .i64 0])] ?_
    refine zB [(0, .sl (.pair (.int .i64) (.pair (.int .i64) (.int .i64))) steps), (3, .int .i64 st1), (4, .bp 4 0), (6, .sl (.pair (.int .i64) (.pair (.int .i64) (.int .i64))) steps), (7, .int .i64 (steps.length : Int)), (8, .int .i64 st1)] [(4, .box 66 [.int .i64 (steps.getD st1.toNat (0, 0, 0)).1, .int .i64 (steps.getD st1.toNat (0, 0, 0)).2.1, .int .i64 (steps.getD st1.toNat (0, 0, 0)).2.2])] ?_
    refine zo ?_
    obtain ⟨c9, h⟩ := ck_some.1 h
    obtain ⟨c10, h⟩ := ck_some.1 h
    refine zS 4 [(0, .sl (.pair (.int .i64) (.pair (.int .i64) (.int .i64))) steps), (4, .bp 4 0), (6, .sl (.pair (.int .i64) (.pair (.int .i64) (.int .i64))) steps), (7, .int .i64 (steps.length : Int)), (8, .int .i64 st1), (15, .sl (.pair (.int .i64) (.pair (.int .i64) (.int .i64))) (steps.take st1.toNat)), (16, .fn (.func 117) [] [.bp 4 0])] [(4, .box 66 [.int .i64 (steps.getD st1.toNat (0, 0, 0)).1, .int .i64 (steps.getD st1.toNat (0, 0, 0)).2.1, .int .i64 (steps.getD st1.toNat (0, 0, 0)).2.2])] ?_
    obtain ⟨v0, hv11, h⟩ := Option.bind_eq_some_iff.1 h
    refine zC [] [(1000, 4)] (hc_slices_ContainsFunc_2 (steps.take st1.toNat) (steps.getD st1.toNat (0, 0, 0)) hv11) [(0, .sl (.pair (.int .i64) (.pair (.int .i64) (.int .i64))) steps), (4, .bp 4 0), (6, .sl (.pair (.int .i64) (.pair (.int .i64) (.int .i64))) steps), (7, .int .i64 (steps.length : Int)), (8, .int .i64 st1), (17, .bool v0)] [(4, .box 66 [.int .i64 (steps.getD st1.toNat (0, 0, 0)).1, .int .i64 (steps.getD st1.toNat (0, 0, 0)).2.1, .int .i64 (steps.getD st1.toNat (0, 0, 0)).2.2])] ?_
    refine zB [(0, .sl (.pair (.int .i64) (.pair (.int .i64) (.int .i64))) steps), (4, .bp 4 0), (5, .bool v0), (6, .sl (.pair (.int .i64) (.pair (.int .i64) (.int .i64))) steps), (7, .int .i64 (steps.length : Int)), (8, .int .i64 st1)] [(4, .box 66 [.int .i64 (steps.getD st1.toNat (0, 0, 0)).1, .int .i64 (steps.getD st1.toNat (0, 0, 0)).2.1, .int .i64 (steps.getD st1.toNat (0, 0, 0)).2.2])] ?_
    refine zo ?_
    refine zS 2 [(0, .sl (.pair (.int .i64) (.pair (.int .i64) (.int .i64))) steps), (4, .bp 4 0), (6, .sl (.pair (.int .i64) (.pair (.int .i64) (.int .i64))) steps), (7, .int .i64 (steps.length : Int)), (8, .int .i64 st1), (19, .bool v0)] [(4, .box 66 [.int .i64 (steps.getD st1.toNat (0, 0, 0)).1, .int .i64 (steps.getD st1.toNat (0, 0, 0)).2.1, .int .i64 (steps.getD st1.toNat (0, 0, 0)).2.2])] ?_
    rcases zI h with ⟨hb12, h⟩ | ⟨hb12, h⟩
    ·refine zB [(0, .sl (.pair (.int .i64) (.pair (.int .i64) (.int .i64))) steps), (6, .sl (.pair (.int .i64) (.pair (.int .i64) (.int .i64))) steps), (7, .int .i64 (steps.length : Int)), (8, .int .i64 st1), (23, .bool true)] [] ?_
     refine AW.cond (b := true) rfl (fun _ => ?_) (fun hb13 => by cases hb13)
     refine zo ?_
     refine zB [(2, .bool false)] [] ?_
     refine AW.ret ?_
     refine ablock_r ?_
     refine athen_r ?_
     obtain rfl := Option.some.inj h
     rw [← hd3 _ rfl] at ho2
     have h := ho2
     try simp only at h
     refine athen_r ?_
     refine ablock_r ?_
     refine athen_r ?_
     obtain rfl := Option.some.inj h
     exact zR [] [] []
    ·refine zS 2 [(0, .sl (.pair (.int .i64) (.pair (.int .i64) (.int .i64))) steps), (6, .sl (.pair (.int .i64) (.pair (.int .i64) (.int .i64))) steps), (7, .int .i64 (steps.length : Int)), (8, .int .i64 st1), (19, .bool false), (21, .int .i64 (steps.getD st1.toNat (0, 0, 0)).2.1)] [] ?_
     obtain ⟨v0_2, hv14, h⟩ := Option.bind_eq_some_iff.1 h
     refine zG [] [] (hc_refine_isHidden (steps.getD st1.toNat (0, 0, 0)).2.1 hv14) [(0, .sl (.pair (.int .i64) (.pair (.int .i64) (.int .i64))) steps), (6, .sl (.pair (.int .i64) (.pair (.int .i64) (.int .i64))) steps), (7, .int .i64 (steps.length : Int)), (8, .int .i64 st1), (19, .bool false), (22, .bool (decide ((steps.getD st1.toNat (0, 0, 0)).2.1 = 0)))] [] ?_
     refine zB [(0, .sl (.pair (.int .i64) (.pair (.int .i64) (.int .i64))) steps), (6, .sl (.pair (.int .i64) (.pair (.int .i64) (.int .i64))) steps), (7, .int .i64 (steps.length : Int)), (8, .int .i64 st1), (23, .bool (decide ((steps.getD st1.toNat (0, 0, 0)).2.1 = 0)))] [] ?_
     refine zQ h (fun hb15 h => ?_) (fun hb15 h => ?_)
     ·refine zo ?_
      refine zB [(2, .bool false)] [] ?_
      refine AW.ret ?_
      refine ablock_r ?_
      refine athen_r ?_
      obtain rfl := Option.some.inj h
      rw [← hd3 _ rfl] at ho2
      have h := ho2
      try simp only at h
      refine athen_r ?_
      refine ablock_r ?_
      refine athen_r ?_
      obtain rfl := Option.some.inj h
      exact zR [] [] []
     ·refine zm ?_
      refine athen_n ?_
      refine AW.ops ?_
      obtain ⟨c16, h⟩ := ck_some.1 h
      refine zA [(0, .sl (.pair (.int .i64) (.pair (.int .i64) (.int .i64))) steps), (6, .sl (.pair (.int .i64) (.pair (.int .i64) (.int .i64))) steps), (7, .int .i64 (steps.length : Int)), (8, .int .i64 (st1 + 1))] [] ?_
      obtain rfl := Option.some.inj h
      exact ⟨_, rfl, zL [] [] []⟩
   ·refine AW.exit ?_
    refine athen_e ?_
    obtain rfl := Option.some.inj h
    rw [← hd3 _ rfl] at ho2
    have h := ho2
    try simp only at h
    refine athen_e ?_
    refine ablock_s ?_
    refine athen_n ?_
    exact AW.weaken (zL [] [] []) (hk_refine_isPlain_k1 () h)

theorem hc_refine_Plain (s : Int × (List (Int × Int × Int))) {r : Bool × Int} (h : refine_Plain s = some r) : HC Try.prog 43 [] [.agg [.int .i64 s.1, .sl (.pair (.int .i64) (.pair (.int .i64) (.int .i64))) s.2]] [] (.tup [.bool r.1, .int .i64 r.2]) := by
 unfold refine_Plain at h
 refine zH Try.func43 [.tmp 2, .tmp 3] 10 ?_
 refine zo ?_
 refine zB [(1, .bp 1 0)] [(1, .box 24 [.int .i64 s.1, .sl (.pair (.int .i64) (.pair (.int .i64) (.int .i64))) s.2])] ?_
 refine AW.seq ?_
 refine zo ?_
 refine zS 1 [(1, .bp 1 0), (4, .agg [.int .i64 s.1, .sl (.pair (.int .i64) (.pair (.int .i64) (.int .i64))) s.2])] [(1, .box 24 [.int .i64 s.1, .sl (.pair (.int .i64) (.pair (.int .i64) (.int .i64))) s.2])] ?_
 obtain ⟨v0, hv1, h⟩ := Option.bind_eq_some_iff.1 h
 refine zC [] [] (hc_refine_Valid s hv1) [(1, .bp 1 0), (5, .bool v0)] [(1, .box 24 [.int .i64 s.1, .sl (.pair (.int .i64) (.pair (.int .i64) (.int .i64))) s.2])] ?_
 refine zB [(1, .bp 1 0), (6, .bool (!v0))] [(1, .box 24 [.int .i64 s.1, .sl (.pair (.int .i64) (.pair (.int .i64) (.int .i64))) s.2])] ?_
 refine zQ h (fun hb2 h => ?_) (fun hb2 h => ?_)
 ·refine zo ?_
  refine zB [(2, .bool false), (3, .int .i64 50)] [] ?_
  refine zr ?_
  obtain rfl := Option.some.inj h
  exact zR [] [] []
 ·refine zk ?_
  refine zo ?_
  refine zS 2 [(8, .sl (.pair (.int .i64) (.pair (.int .i64) (.int .i64))) s.2)] [] ?_
  obtain ⟨v0_2, hv3, h⟩ := Option.bind_eq_some_iff.1 h
  refine zC [] [] (hc_refine_isPlain s.2 hv3) [(9, .bool v0_2)] [] ?_
  refine zB [(2, .bool v0_2), (3, .int .i64 0)] [] ?_
  refine AW.ret ?_
  obtain rfl := Option.some.inj h
  exact zR [] [] []

theorem hc_slices_Index_2 (s : List Int) (v0 : Int) {r : Int} (h : slices_Index_2 s v0 = some r) : HC Try.prog 119 [] [.sl (.int .u8) s, .int .u8 v0] [] (.int .i64 r) := by
 unfold slices_Index_2 at h
 refine zH Try.func119 [.tmp 4] 19 ?_
 refine zo ?_
 refine zB [(0, .sl (.int .u8) s), (1, .int .u8 v0)] [] ?_
 refine AW.have1 (fun _ : Unit => slices_Index_2_k1 = some r) (fun _ => ⟨fr [], hpGet [], gt⟩) (fun _ h => ?_) (fun hk_slices_Index_2_k1 => ?_)
 ·as_aux_lemma =>
   unfold slices_Index_2_k1 at h
   refine zo ?_
   refine zB [(4, .int .i64 (-1))] [] ?_
   refine AW.ret ?_
   obtain rfl := Option.some.inj h
   exact zR [] [] []
 ·refine AW.seq ?_
  refine zo ?_
  refine zB [(0, .sl (.int .u8) s), (1, .int .u8 v0), (7, .int .i64 (s.length : Int)), (8, .int .i64 0)] [] ?_
  refine AW.block ?_
  obtain ⟨rv5, hw1, ho2⟩ := Option.bind_eq_some_iff.1 h
  refine AW.loopO (slices_Index_2_b1 s v0) (fun st1 => ⟨fr [(0, .sl (.int .u8) s), (1, .int .u8 v0), (7, .int .i64 (s.length : Int)), (8, .int .i64 st1)], hpGet [], gt⟩) 0 hw1 (zL [] [] []) ?_
  as_aux_lemma =>
   intro st1 x4 h hd3
   unfold slices_Index_2_b1 at h
   refine zo ?_
   refine zB [(0, .sl (.int .u8) s), (1, .int .u8 v0), (7, .int .i64 (s.length : Int)), (8, .int .i64 st1), (9, .bool (decide (st1 < (s.length : Int))))] [] ?_
   refine AW.seq ?_
   refine zQ h (fun hb6 h => ?_) (fun hb6 h => ?_)
   ·refine zk ?_
    refine AW.seq ?_
    refine AW.block ?_
    refine zo ?_
    refine zB [(0, .sl (.int .u8) s), (1, .int .u8 v0), (5, .int .i64 st1), (7, .int .i64 (s.length : Int)), (8, .int .i64 st1)] [] ?_
    refine zo ?_
    obtain ⟨c7, h⟩ := ck_some.1 h
    obtain ⟨c8, h⟩ := ck_some.1 h
    refine zS 5 [(0, .sl (.int .u8) s), (1, .int .u8 v0), (5, .int .i64 st1), (7, .int .i64 (s.length : Int)), (8, .int .i64 st1), (11, .int .u8 v0), (15, .int .u8 (s.getD st1.toNat 0))] [] ?_
    refine zB [(0, .sl (.int .u8) s), (1, .int .u8 v0), (5, .int .i64 st1), (7, .int .i64 (s.length : Int)), (8, .int .i64 st1), (16, .bool (decide (v0 = (s.getD st1.toNat 0))))] [] ?_
    refine zQ h (fun hb9 h => ?_) (fun hb9 h => ?_)
    ·refine zo ?_
     refine zB [(4, .int .i64 st1)] [] ?_
     refine AW.ret ?_
     refine ablock_r ?_
     refine athen_r ?_
     obtain rfl := Option.some.inj h
     rw [← hd3 _ rfl] at ho2
     have h := ho2
     try simp only at h
     refine athen_r ?_
     refine ablock_r ?_
     refine athen_r ?_
     obtain rfl := Option.some.inj h
     exact zR [] [] []
    ·refine zm ?_
     refine athen_n ?_
     refine AW.ops ?_
     obtain ⟨c10, h⟩ := ck_some.1 h
     refine zA [(0, .sl (.int .u8) s), (1, .int .u8 v0), (7, .int .i64 (s.length : Int)), (8, .int .i64 (st1 + 1))] [] ?_
     obtain rfl := Option.some.inj h
     exact ⟨_, rfl, zL [] [] []⟩
   ·refine AW.exit ?_
    refine athen_e ?_
    obtain rfl := Option.some.inj h
    rw [← hd3 _ rfl] at ho2
    have h := ho2
    try simp only at h
    refine athen_e ?_
    refine ablock_s ?_
    refine athen_n ?_
    exact AW.weaken (zL [] [] []) (hk_slices_Index_2_k1 () h)

theorem hc_slices_Contains_2 (s : List Int) (v0 : Int) {r : Bool} (h : slices_Contains_2 s v0 = some r) : HC Try.prog 118 [] [.sl (.int .u8) s, .int .u8 v0] [] (.bool r) := by
 unfold slices_Contains_2 at h
 refine zH Try.func118 [.tmp 4] 9 ?_
 refine zo ?_
 refine zB [(0, .sl (.int .u8) s), (1, .int .u8 v0)] [] ?_
 refine zo ?_
 refine zS 2 [(5, .sl (.int .u8) s), (6, .int .u8 v0)] [] ?_
 obtain ⟨v0_2, hv1, h⟩ := Option.bind_eq_some_iff.1 h
 refine zC [] [] (hc_slices_Index_2 s v0 hv1) [(7, .int .i64 v0_2)] [] ?_
 refine zB [(4, .bool (decide (0 ≤ v0_2)))] [] ?_
 refine AW.ret ?_
 obtain rfl := Option.some.inj h
 exact zR [] [] []

end Go.Proofs.Ytljonmpcehlpaaa
