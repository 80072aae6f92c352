/-
  Made by wip/tool/dc.py out of the print of the program: contracts.
-/
import Derived.Test.YtifleoceebaooaaRfp
import Derived.Test.YtifleoceebaooaaShr
import Derived.Test.YtifleoceebaooaaAvd
import Derived.Test.YtifleoceebaooaaNec1
import Derived.Test.YtifleoceebaooaaNec4
namespace Go.Proofs.Ytifleoceebaooaa
open Go.RowKit

set_option linter.unusedSimpArgs false
set_option linter.unusedVariables false
set_option linter.constructorNameAsVariable false

set_option maxRecDepth 100000
set_option maxHeartbeats 2000000

theorem hc_refine_Hidden (s : Int × (List (Int × Int × Int))) (label : Int) {r : Int × (List (Int × Int × Int)) × Int} (h : refine_Hidden s label = some r) : HC Try.prog 48 [] [.agg [.int .i64 s.1, .sl (.pair (.int .i64) (.pair (.int .i64) (.int .i64))) s.2], .int .i64 label] [(2000, .arr 66 (.pair (.int .i64) (.pair (.int .i64) (.int .i64))) r.2.1)] (.tup [.agg [.int .i64 r.1, .own 2000], .int .i64 r.2.2]) := by
 unfold refine_Hidden at h
 refine zH Try.func48 [.cell 4 24, .tmp 5] 21 ?_
 refine zo ?_
 refine zB [(1, .int .i64 label), (2, .bp 2 0), (4, .bp 4 0)] [(2, .box 24 [.int .i64 s.1, .sl (.pair (.int .i64) (.pair (.int .i64) (.int .i64))) s.2]), (4, .box 24 [.int .i64 0, .cv (.slice none 0 0)])] ?_
 refine AW.seq ?_
 refine zo ?_
 refine zS 1 [(1, .int .i64 label), (2, .bp 2 0), (4, .bp 4 0), (6, .agg [.int .i64 s.1, .sl (.pair (.int .i64) (.pair (.int .i64) (.int .i64))) s.2])] [(2, .box 24 [.int .i64 s.1, .sl (.pair (.int .i64) (.pair (.int .i64) (.int .i64))) s.2]), (4, .box 24 [.int .i64 0, .cv (.slice none 0 0)])] ?_
 obtain ⟨v0, hv1, h⟩ := Option.bind_eq_some_iff.1 h
 refine zC [] [] (hc_refine_Valid s hv1) [(1, .int .i64 label), (2, .bp 2 0), (4, .bp 4 0), (7, .bool v0)] [(2, .box 24 [.int .i64 s.1, .sl (.pair (.int .i64) (.pair (.int .i64) (.int .i64))) s.2]), (4, .box 24 [.int .i64 0, .cv (.slice none 0 0)])] ?_
 refine zB [(1, .int .i64 label), (2, .bp 2 0), (4, .bp 4 0), (8, .bool (!v0))] [(2, .box 24 [.int .i64 s.1, .sl (.pair (.int .i64) (.pair (.int .i64) (.int .i64))) s.2]), (4, .box 24 [.int .i64 0, .cv (.slice none 0 0)])] ?_
 refine zQ h (fun hb2 h => ?_) (fun hb2 h => ?_)
 ·refine zo ?_
  refine zB [(4, .bp 4 0), (5, .int .i64 50)] [(4, .box 24 [.int .i64 0, .cv (.slice none 0 0)])] ?_
  refine zr ?_
  obtain rfl := Option.some.inj h
  exact zR [] [2000] []
 ·refine zk ?_
  refine AW.seq ?_
  refine zo ?_
  refine zS 1 [(1, .int .i64 label), (2, .bp 2 0), (4, .bp 4 0), (10, .int .i64 label)] [(2, .box 24 [.int .i64 s.1, .sl (.pair (.int .i64) (.pair (.int .i64) (.int .i64))) s.2]), (4, .box 24 [.int .i64 0, .cv (.slice none 0 0)])] ?_
  obtain ⟨v0_2, hv3, h⟩ := Option.bind_eq_some_iff.1 h
  refine zC [] [] (hc_refine_isSeen label hv3) [(1, .int .i64 label), (2, .bp 2 0), (4, .bp 4 0), (11, .bool v0_2)] [(2, .box 24 [.int .i64 s.1, .sl (.pair (.int .i64) (.pair (.int .i64) (.int .i64))) s.2]), (4, .box 24 [.int .i64 0, .cv (.slice none 0 0)])] ?_
  refine zB [(1, .int .i64 label), (2, .bp 2 0), (4, .bp 4 0), (12, .bool (!v0_2))] [(2, .box 24 [.int .i64 s.1, .sl (.pair (.int .i64) (.pair (.int .i64) (.int .i64))) s.2]), (4, .box 24 [.int .i64 0, .cv (.slice none 0 0)])] ?_
  refine zQ h (fun hb4 h => ?_) (fun hb4 h => ?_)
  ·refine zo ?_
   refine zB [(4, .bp 4 0), (5, .int .i64 2)] [(4, .box 24 [.int .i64 0, .cv (.slice none 0 0)])] ?_
   refine zr ?_
   obtain rfl := Option.some.inj h
   exact zR [] [2000] []
  ·refine zk ?_
   refine AW.seq ?_
   refine AW.draw tab_ok mixed_ok [(5, [29000]), (7, [4])] [(0, [2]), (1, [2]), (100007, [])] (by decide) (lex_fast (by kernel_rfl)) ?_
   as_aux_lemma =>
    refine adops_cut 5 (fun K' hK5 => ?_)
    try dsimp only [List.drop_succ_cons, List.drop_zero, List.take_succ_cons, List.take_zero]
    simp only [go_sem, hb2, hb4]
    repeat with_reducible refine zN ?_
    refine hK5 _ ?_
    as_aux_lemma =>
     obtain ⟨v0_3, hv6, h⟩ := Option.bind_eq_some_iff.1 h
     refine adops.call (by first | trivial | rfl) rfl rfl rfl (fun _ h => h) [] [] (hc_refine_hide s.2 label hv6) rfl (by (simp only [go_sem, hb2, hb4]) <;> (with_reducible and_intros) <;> first | assumption | rfl | omega | (unfold maxLen; omega)) (by (simp only [go_sem, hb2, hb4]) <;> (with_reducible and_intros) <;> first | assumption | rfl | omega | (unfold maxLen; omega)) rfl ?_
     refine adops_cut 3 (fun K' hK7 => ?_)
     try dsimp only [List.drop_succ_cons, List.drop_zero, List.take_succ_cons, List.take_zero]
     simp only [go_sem, hb2, hb4]
     repeat with_reducible refine zN ?_
     refine hK7 _ ?_
     refine adops_nil ?_
     refine athen_n ?_
     refine zV [(4, .bp 4 0), (5, .int .i64 0)] [(4, .box 24 [.int .i64 s.1, .own 29000]), (29000, .arr 66 (.pair (.int .i64) (.pair (.int .i64) (.int .i64))) v0_3)] gt ?_
     as_aux_lemma =>
      refine AW.ret ?_
      obtain rfl := Option.some.inj h
      exact zR [] [] [(2000, 29000)]

theorem hc_linealref05_Same (a : Int × (List (Int × Int × Int))) (b : Int × (List (Int × Int × Int))) {r : Bool} (h : linealref05_Same a b = some r) : HC Try.prog 47 [] [.agg [.int .i64 a.1, .sl (.pair (.int .i64) (.pair (.int .i64) (.int .i64))) a.2], .agg [.int .i64 b.1, .sl (.pair (.int .i64) (.pair (.int .i64) (.int .i64))) b.2]] [] (.bool r) := by
 unfold linealref05_Same at h
 refine zH Try.func47 [.tmp 4] 38 ?_
 refine zo ?_
 refine zB [(2, .bp 2 0), (3, .bp 3 0)] [(2, .box 24 [.int .i64 a.1, .sl (.pair (.int .i64) (.pair (.int .i64) (.int .i64))) a.2]), (3, .box 24 [.int .i64 b.1, .sl (.pair (.int .i64) (.pair (.int .i64) (.int .i64))) b.2])] ?_
 refine AW.seq ?_
 refine zo ?_
 refine zS 5 [(2, .bp 2 0), (3, .bp 3 0), (10, .bool (!(decide (a.1 = b.1))))] [(2, .box 24 [.int .i64 a.1, .sl (.pair (.int .i64) (.pair (.int .i64) (.int .i64))) a.2]), (3, .box 24 [.int .i64 b.1, .sl (.pair (.int .i64) (.pair (.int .i64) (.int .i64))) b.2])] ?_
 refine zS 1 [(2, .bp 2 0), (3, .bp 3 0), (11, .bool (!(decide (a.1 = b.1))))] [(2, .box 24 [.int .i64 a.1, .sl (.pair (.int .i64) (.pair (.int .i64) (.int .i64))) a.2]), (3, .box 24 [.int .i64 b.1, .sl (.pair (.int .i64) (.pair (.int .i64) (.int .i64))) b.2])] ?_
 rcases zI h with ⟨hb1, h⟩ | ⟨hb1, h⟩
 ·refine zS 4 [(2, .bp 2 0), (3, .bp 3 0), (11, .bool true), (14, .cv (undef)), (15, .cv (undef))] [(2, .box 24 [.int .i64 a.1, .sl (.pair (.int .i64) (.pair (.int .i64) (.int .i64))) a.2]), (3, .box 24 [.int .i64 b.1, .sl (.pair (.int .i64) (.pair (.int .i64) (.int .i64))) b.2])] ?_
  refine zB [(2, .bp 2 0), (3, .bp 3 0), (19, .bool true)] [(2, .box 24 [.int .i64 a.1, .sl (.pair (.int .i64) (.pair (.int .i64) (.int .i64))) a.2]), (3, .box 24 [.int .i64 b.1, .sl (.pair (.int .i64) (.pair (.int .i64) (.int .i64))) b.2])] ?_
  refine AW.cond (b := true) rfl (fun _ => ?_) (fun hb2 => by cases hb2)
  refine zo ?_
  refine zB [(4, .bool false)] [] ?_
  refine zr ?_
  obtain rfl := Option.some.inj h
  exact zR [] [] []
 ·refine zS 5 [(2, .bp 2 0), (3, .bp 3 0), (11, .bool false), (14, .int .i64 (a.2.length : Int)), (16, .sl (.pair (.int .i64) (.pair (.int .i64) (.int .i64))) b.2)] [(2, .box 24 [.int .i64 a.1, .sl (.pair (.int .i64) (.pair (.int .i64) (.int .i64))) a.2]), (3, .box 24 [.int .i64 b.1, .sl (.pair (.int .i64) (.pair (.int .i64) (.int .i64))) b.2])] ?_
  refine zB [(2, .bp 2 0), (3, .bp 3 0), (19, .bool (!(decide ((a.2.length : Int) = (b.2.length : Int)))))] [(2, .box 24 [.int .i64 a.1, .sl (.pair (.int .i64) (.pair (.int .i64) (.int .i64))) a.2]), (3, .box 24 [.int .i64 b.1, .sl (.pair (.int .i64) (.pair (.int .i64) (.int .i64))) b.2])] ?_
  refine zQ h (fun hb3 h => ?_) (fun hb3 h => ?_)
  ·refine zo ?_
   refine zB [(4, .bool false)] [] ?_
   refine zr ?_
   obtain rfl := Option.some.inj h
   exact zR [] [] []
  ·refine zk ?_
   refine AW.have1 (fun _ : Unit => linealref05_Same_k1 = some r) (fun _ => ⟨fr [], hpGet [], gt⟩) (fun _ h => ?_) (fun hk_linealref05_Same_k1 => ?_)
   ·as_aux_lemma =>
     unfold linealref05_Same_k1 at h
     refine zo ?_
     refine zB [(4, .bool true)] [] ?_
     refine AW.ret ?_
     obtain rfl := Option.some.inj h
     exact zR [] [] []
   ·refine AW.seq ?_
    refine zo ?_
    refine zB [(2, .bp 2 0), (3, .bp 3 0), (22, .int .i64 (a.2.length : Int)), (23, .int .i64 0)] [(2, .box 24 [.int .i64 a.1, .sl (.pair (.int .i64) (.pair (.int .i64) (.int .i64))) a.2]), (3, .box 24 [.int .i64 b.1, .sl (.pair (.int .i64) (.pair (.int .i64) (.int .i64))) b.2])] ?_
    refine AW.block ?_
    obtain ⟨rv8, hw4, ho5⟩ := Option.bind_eq_some_iff.1 h
    refine AW.loopO (linealref05_Same_b1 a b) (fun st1 => ⟨fr [(2, .bp 2 0), (3, .bp 3 0), (22, .int .i64 (a.2.length : Int)), (23, .int .i64 st1)], hpGet [(2, .box 24 [.int .i64 a.1, .sl (.pair (.int .i64) (.pair (.int .i64) (.int .i64))) a.2]), (3, .box 24 [.int .i64 b.1, .sl (.pair (.int .i64) (.pair (.int .i64) (.int .i64))) b.2])], gt⟩) 0 hw4 (zL [] [] []) ?_
    as_aux_lemma =>
     intro st1 x7 h hd6
     unfold linealref05_Same_b1 at h
     refine zo ?_
     refine zB [(2, .bp 2 0), (3, .bp 3 0), (22, .int .i64 (a.2.length : Int)), (23, .int .i64 st1), (24, .bool (decide (st1 < (a.2.length : Int))))] [(2, .box 24 [.int .i64 a.1, .sl (.pair (.int .i64) (.pair (.int .i64) (.int .i64))) a.2]), (3, .box 24 [.int .i64 b.1, .sl (.pair (.int .i64) (.pair (.int .i64) (.int .i64))) b.2])] ?_
     refine AW.seq ?_
     refine zQ h (fun hb9 h => ?_) (fun hb9 h => ?_)
     ·refine zk ?_
      refine AW.seq ?_
      refine AW.block ?_
      refine zo ?_
      refine zB [(2, .bp 2 0), (3, .bp 3 0), (5, .int .i64 st1), (22, .int .i64 (a.2.length : Int)), (23, .int .i64 st1)] [(2, .box 24 [.int .i64 a.1, .sl (.pair (.int .i64) (.pair (.int .i64) (.int .i64))) a.2]), (3, .box 24 [.int .i64 b.1, .sl (.pair (.int .i64) (.pair (.int .i64) (.int .i64))) b.2])] ?_
      refine AW.seq ?_
      refine AW.drawTail tab_ok mixed_ok 10 [] [] (by decide) (by kernel_rfl) (by kernel_rfl) (by decide) ?_
      dsimp only [List.take_succ_cons, List.take_zero]
      obtain ⟨c11, h⟩ := ck_some.1 h
      obtain ⟨c12, h⟩ := ck_some.1 h
      refine adops_cut 6 (fun K' hK10 => ?_)
      try dsimp only [List.drop_succ_cons, List.drop_zero, List.take_succ_cons, List.take_zero]
      simp only [go_sem, hb1, hb3, hb9]
      repeat with_reducible refine zN ?_
      refine hK10 _ ?_
      as_aux_lemma =>
       obtain ⟨c14, h⟩ := ck_some.1 h
       obtain ⟨c15, h⟩ := ck_some.1 h
       refine adops_cut 4 (fun K' hK13 => ?_)
       try dsimp only [List.drop_succ_cons, List.drop_zero, List.take_succ_cons, List.take_zero]
       simp only [go_sem, hb1, hb3, hb9]
       repeat with_reducible refine zN ?_
       refine hK13 _ ?_
       refine adops_nil ?_
       refine zT [(2, .bp 2 0), (3, .bp 3 0), (22, .int .i64 (a.2.length : Int)), (23, .int .i64 st1), (30, .agg [.int .i64 (a.2.getD st1.toNat (0, 0, 0)).1, .int .i64 (a.2.getD st1.toNat (0, 0, 0)).2.1, .int .i64 (a.2.getD st1.toNat (0, 0, 0)).2.2]), (35, .agg [.int .i64 (b.2.getD st1.toNat (0, 0, 0)).1, .int .i64 (b.2.getD st1.toNat (0, 0, 0)).2.1, .int .i64 (b.2.getD st1.toNat (0, 0, 0)).2.2])] [(2, .box 24 [.int .i64 a.1, .sl (.pair (.int .i64) (.pair (.int .i64) (.int .i64))) a.2]), (3, .box 24 [.int .i64 b.1, .sl (.pair (.int .i64) (.pair (.int .i64) (.int .i64))) b.2])] gt ?_
       obtain ⟨c16, h⟩ := ck_some.1 h
       obtain ⟨c17, h⟩ := ck_some.1 h
       obtain ⟨c18, h⟩ := ck_some.1 h
       obtain ⟨c19, h⟩ := ck_some.1 h
       obtain ⟨c20, h⟩ := ck_some.1 h
       obtain ⟨c21, h⟩ := ck_some.1 h
       refine AO.aggEq (neg := true) eqty_66 (by decide) rfl rfl (lx := [.int .i64 (a.2.getD st1.toNat (0, 0, 0)).1, .int .i64 (a.2.getD st1.toNat (0, 0, 0)).2.1, .int .i64 (a.2.getD st1.toNat (0, 0, 0)).2.2]) (ly := [.int .i64 (b.2.getD st1.toNat (0, 0, 0)).1, .int .i64 (b.2.getD st1.toNat (0, 0, 0)).2.1, .int .i64 (b.2.getD st1.toNat (0, 0, 0)).2.2]) (by first | rfl | (simp only [go_sem, hb1, hb3, hb9]) <;> (with_reducible and_intros) <;> first | assumption | rfl | omega | (unfold maxLen; omega)) (by first | rfl | (simp only [go_sem, hb1, hb3, hb9]) <;> (with_reducible and_intros) <;> first | assumption | rfl | omega | (unfold maxLen; omega)) (by first | rfl | (simp only [go_sem, hb1, hb3, hb9]) <;> (with_reducible and_intros) <;> first | assumption | rfl | omega | (unfold maxLen; omega)) (by first | rfl | (simp only [go_sem, hb1, hb3, hb9]) <;> (with_reducible and_intros) <;> first | assumption | rfl | omega | (unfold maxLen; omega)) (by first | assumption | omega | (simp only [go_sem, hb1, hb3, hb9]) <;> (with_reducible and_intros) <;> first | assumption | rfl | omega | (unfold maxLen; omega)) (by first | assumption | omega | (simp only [go_sem, hb1, hb3, hb9]) <;> (with_reducible and_intros) <;> first | assumption | rfl | omega | (unfold maxLen; omega)) ?_
       refine zT [(2, .bp 2 0), (3, .bp 3 0), (22, .int .i64 (a.2.length : Int)), (23, .int .i64 st1), (36, .bool (!(decide ((a.2.getD st1.toNat (0, 0, 0)) = (b.2.getD st1.toNat (0, 0, 0))))))] [(2, .box 24 [.int .i64 a.1, .sl (.pair (.int .i64) (.pair (.int .i64) (.int .i64))) a.2]), (3, .box 24 [.int .i64 b.1, .sl (.pair (.int .i64) (.pair (.int .i64) (.int .i64))) b.2])] gt ?_
       refine zB [(2, .bp 2 0), (3, .bp 3 0), (22, .int .i64 (a.2.length : Int)), (23, .int .i64 st1), (36, .bool (!(decide ((a.2.getD st1.toNat (0, 0, 0)) = (b.2.getD st1.toNat (0, 0, 0))))))] [(2, .box 24 [.int .i64 a.1, .sl (.pair (.int .i64) (.pair (.int .i64) (.int .i64))) a.2]), (3, .box 24 [.int .i64 b.1, .sl (.pair (.int .i64) (.pair (.int .i64) (.int .i64))) b.2])] ?_
       refine zQ h (fun hb22 h => ?_) (fun hb22 h => ?_)
       ·refine zo ?_
        refine zB [(4, .bool false)] [] ?_
        refine AW.ret ?_
        refine ablock_r ?_
        refine athen_r ?_
        obtain rfl := Option.some.inj h
        rw [← hd6 _ rfl] at ho5
        have h := ho5
        try simp only at h
        refine athen_r ?_
        refine ablock_r ?_
        refine athen_r ?_
        obtain rfl := Option.some.inj h
        exact zR [] [] []
       ·refine zm ?_
        refine athen_n ?_
        refine AW.ops ?_
        obtain ⟨c23, h⟩ := ck_some.1 h
        refine zA [(2, .bp 2 0), (3, .bp 3 0), (22, .int .i64 (a.2.length : Int)), (23, .int .i64 (st1 + 1))] [(2, .box 24 [.int .i64 a.1, .sl (.pair (.int .i64) (.pair (.int .i64) (.int .i64))) a.2]), (3, .box 24 [.int .i64 b.1, .sl (.pair (.int .i64) (.pair (.int .i64) (.int .i64))) b.2])] ?_
        obtain rfl := Option.some.inj h
        exact ⟨_, rfl, zL [] [] []⟩
     ·refine AW.exit ?_
      refine athen_e ?_
      obtain rfl := Option.some.inj h
      rw [← hd6 _ rfl] at ho5
      have h := ho5
      try simp only at h
      refine athen_e ?_
      refine ablock_s ?_
      refine athen_n ?_
      exact AW.weaken (zL [] [] []) (hk_linealref05_Same_k1 () h)

theorem hc_slices_Grow (n : Int) {r : Unit} (h : slices_Grow n = some r) : HC Try.prog 120 [] [.cv (.slice none 0 0), .int .i64 n] [(2000, .arr 66 (.pair (.int .i64) (.pair (.int .i64) (.int .i64))) [])] (.own 2000) := by
 unfold slices_Grow at h
 refine zH Try.func120 [.tmp 4] 27 ?_
 refine zo ?_
 refine zB [(0, .cv (.slice none 0 0)), (1, .int .i64 n)] [] ?_
 refine AW.seq ?_
 refine zo ?_
 refine zB [(0, .cv (.slice none 0 0)), (1, .int .i64 n), (6, .bool (decide (n < 0)))] [] ?_
 refine zQ h (fun hb1 h => ?_) (fun hb1 h => ?_)
 ·refine AW.ops ?_
  cases h
 ·refine zk ?_
  refine AW.seq ?_
  refine zo ?_
  refine zS 2 [(0, .cv (.slice none 0 0)), (8, .int .i64 n), (9, .cv (.slice none 0 0))] [] ?_
  refine AO.capNil tab_ok (by decide) rfl rfl rfl rfl rfl tab_22 rfl rfl ?_
  refine zT [(0, .cv (.slice none 0 0)), (8, .int .i64 n), (10, .int .i64 0)] [] gt ?_
  obtain ⟨c2, h⟩ := ck_some.1 h
  obtain ⟨c3, h⟩ := ck_some.1 h
  refine zB [(0, .cv (.slice none 0 0)), (1, .int .i64 (n - (0 - 0)))] [] ?_
  refine zo ?_
  refine zB [(0, .cv (.slice none 0 0)), (1, .int .i64 (n - (0 - 0))), (16, .bool (decide (0 < (n - (0 - 0)))))] [] ?_
  refine zQ h (fun hb4 h => ?_) (fun hb4 h => ?_)
  ·refine AW.ops ?_
   refine zS 2 [(0, .cv (.slice none 0 0)), (1, .int .i64 (n - (0 - 0))), (17, .cv (.slice none 0 0)), (18, .cv (.slice none 0 0))] [] ?_
   refine AO.capNil tab_ok (by decide) rfl rfl rfl rfl rfl tab_22 rfl rfl ?_
   refine zT [(0, .cv (.slice none 0 0)), (1, .int .i64 (n - (0 - 0))), (17, .cv (.slice none 0 0)), (19, .int .i64 0)] [] gt ?_
   refine AO.sliceNil tab_ok (by decide) rfl rfl tab_22 rfl tab_66 rfl rfl ?_
   refine zT [(0, .cv (.slice none 0 0)), (1, .int .i64 (n - (0 - 0))), (20, .cv (.slice none 0 0))] [] gt ?_
   refine zS 1 [(0, .cv (.slice none 0 0)), (20, .cv (.slice none 0 0)), (21, .int .i64 (n - (0 - 0)))] [] ?_
   obtain ⟨c5, h⟩ := ck_some.1 h
   obtain ⟨c6, h⟩ := ck_some.1 h
   obtain ⟨c7, h⟩ := ck_some.1 h
   refine AO.appendZeros tab_ok (by decide) (by decide) rfl rfl rfl rfl rfl tab_22 rfl tab_66 rfl tab_3 rfl rfl rfl (by first | assumption | omega | (simp only [go_sem, hb1, hb4]) <;> (with_reducible and_intros) <;> first | assumption | rfl | omega | (unfold maxLen; omega)) (by first | assumption | omega | (simp only [go_sem, hb1, hb4]) <;> (with_reducible and_intros) <;> first | assumption | rfl | omega | (unfold maxLen; omega)) (by first | assumption | omega | (simp only [go_sem, hb1, hb4]) <;> (with_reducible and_intros) <;> first | assumption | rfl | omega | (unfold maxLen; omega)) ?_
   refine zT [(0, .cv (.slice none 0 0)), (22, .own 22)] [(22, .arr 66 (.pair (.int .i64) (.pair (.int .i64) (.int .i64))) (List.replicate (n - (0 - 0)).toNat ((0, 0, 0) : Int × Int × Int)))] gt ?_
   refine zS 2 [(22, .own 22), (24, .int .i64 0)] [(22, .arr 66 (.pair (.int .i64) (.pair (.int .i64) (.int .i64))) (List.replicate (n - (0 - 0)).toNat ((0, 0, 0) : Int × Int × Int)))] ?_
   obtain ⟨c8, h⟩ := ck_some.1 h
   obtain ⟨c9, h⟩ := ck_some.1 h
   refine AO.sliceOwn tab_ok (by decide) (by decide) rfl rfl tab_22 rfl tab_66 rfl rfl rfl rfl (by first | assumption | omega | (simp only [go_sem, hb1, hb4]) <;> (with_reducible and_intros) <;> first | assumption | rfl | omega | (unfold maxLen; omega)) (by first | assumption | omega | (simp only [go_sem, hb1, hb4]) <;> (with_reducible and_intros) <;> first | assumption | rfl | omega | (unfold maxLen; omega)) ?_
   refine zT [(25, .own 25)] [(25, .arr 66 (.pair (.int .i64) (.pair (.int .i64) (.int .i64))) [])] gt ?_
   refine zB [(0, .own 25)] [(25, .arr 66 (.pair (.int .i64) (.pair (.int .i64) (.int .i64))) [])] ?_
   refine zo ?_
   refine zB [(4, .own 25)] [(25, .arr 66 (.pair (.int .i64) (.pair (.int .i64) (.int .i64))) [])] ?_
   refine AW.ret ?_
   obtain rfl := Option.some.inj h
   exact zR [] [] [(2000, 25)]
  ·refine zk ?_
   refine zo ?_
   refine zB [(4, .cv (.slice none 0 0))] [] ?_
   refine AW.ret ?_
   obtain rfl := Option.some.inj h
   exact zR [] [2000] []

theorem hc_slices_Concat (slices : List (List (Int × Int × Int))) {r : (List (Int × Int × Int))} (h : slices_Concat slices = some r) : HC Try.prog 98 [] [.sl (.sl (.pair (.int .i64) (.pair (.int .i64) (.int .i64)))) slices] [(2000, .arr 66 (.pair (.int .i64) (.pair (.int .i64) (.int .i64))) r)] (.own 2000) := by
 unfold slices_Concat at h
 refine zH Try.func98 [.tmp 2] 36 ?_
 refine zo ?_
 refine zB [(0, .sl (.sl (.pair (.int .i64) (.pair (.int .i64) (.int .i64)))) slices)] [] ?_
 refine zo ?_
 refine zB [(0, .sl (.sl (.pair (.int .i64) (.pair (.int .i64) (.int .i64)))) slices), (3, .int .i64 0)] [] ?_
 refine AW.have1 (fun b1 : Int => slices_Concat_k1 slices b1 = some r) (fun b1 => ⟨fr [(0, .sl (.sl (.pair (.int .i64) (.pair (.int .i64) (.int .i64)))) slices), (3, .int .i64 b1)], hpGet [], gt⟩) (fun b1 h => ?_) (fun hk_slices_Concat_k1 => ?_)
 ·as_aux_lemma =>
   unfold slices_Concat_k1 at h
   refine zo ?_
   refine zS 1 [(0, .sl (.sl (.pair (.int .i64) (.pair (.int .i64) (.int .i64)))) slices), (23, .int .i64 b1)] [] ?_
   obtain ⟨v0, hv1, h⟩ := Option.bind_eq_some_iff.1 h
   refine zC [] [] (hc_slices_Grow b1 hv1) [(0, .sl (.sl (.pair (.int .i64) (.pair (.int .i64) (.int .i64)))) slices), (24, .own 34000)] [(34000, .arr 66 (.pair (.int .i64) (.pair (.int .i64) (.int .i64))) [])] ?_
   refine zB [(0, .sl (.sl (.pair (.int .i64) (.pair (.int .i64) (.int .i64)))) slices), (6, .own 34000)] [(34000, .arr 66 (.pair (.int .i64) (.pair (.int .i64) (.int .i64))) [])] ?_
   refine AW.have1 (fun b2 : (List (Int × Int × Int)) => slices_Concat_k2 b2 = some r) (fun b2 => ⟨fr [(6, .own 33)], hpGet [(33, .arr 66 (.pair (.int .i64) (.pair (.int .i64) (.int .i64))) b2)], gt⟩) (fun b2 h => ?_) (fun hk_slices_Concat_k2 => ?_)
   ·as_aux_lemma =>
     unfold slices_Concat_k2 at h
     refine zo ?_
     refine zB [(2, .own 33)] [(33, .arr 66 (.pair (.int .i64) (.pair (.int .i64) (.int .i64))) b2)] ?_
     refine AW.ret ?_
     obtain rfl := Option.some.inj h
     exact zR [] [] [(2000, 33)]
   ·refine AW.seq ?_
    refine zo ?_
    refine zB [(6, .own 34000), (25, .sl (.sl (.pair (.int .i64) (.pair (.int .i64) (.int .i64)))) slices), (26, .int .i64 (slices.length : Int)), (27, .int .i64 0)] [(34000, .arr 66 (.pair (.int .i64) (.pair (.int .i64) (.int .i64))) [])] ?_
    refine AW.block ?_
    obtain ⟨rv6, hw2, ho3⟩ := Option.bind_eq_some_iff.1 h
    refine AW.loopO (slices_Concat_b2 slices) (fun st2 => ⟨fr [(6, .own 33), (25, .sl (.sl (.pair (.int .i64) (.pair (.int .i64) (.int .i64)))) slices), (26, .int .i64 (slices.length : Int)), (27, .int .i64 st2.2)], hpGet [(33, .arr 66 (.pair (.int .i64) (.pair (.int .i64) (.int .i64))) st2.1)], gt⟩) ([], 0) hw2 (zL [] [] [(33, 34000)]) ?_
    as_aux_lemma =>
     intro st2 x5 h hd4
     unfold slices_Concat_b2 at h
     refine zo ?_
     refine zB [(6, .own 33), (25, .sl (.sl (.pair (.int .i64) (.pair (.int .i64) (.int .i64)))) slices), (26, .int .i64 (slices.length : Int)), (27, .int .i64 st2.2), (28, .bool (decide (st2.2 < (slices.length : Int))))] [(33, .arr 66 (.pair (.int .i64) (.pair (.int .i64) (.int .i64))) st2.1)] ?_
     refine AW.seq ?_
     refine zQ h (fun hb7 h => ?_) (fun hb7 h => ?_)
     ·refine zk ?_
      refine AW.seq ?_
      refine AW.block ?_
      refine zo ?_
      obtain ⟨c8, h⟩ := ck_some.1 h
      obtain ⟨c9, h⟩ := ck_some.1 h
      refine zB [(6, .own 33), (8, .sl (.pair (.int .i64) (.pair (.int .i64) (.int .i64))) (slices.getD st2.2.toNat [])), (25, .sl (.sl (.pair (.int .i64) (.pair (.int .i64) (.int .i64)))) slices), (26, .int .i64 (slices.length : Int)), (27, .int .i64 st2.2)] [(33, .arr 66 (.pair (.int .i64) (.pair (.int .i64) (.int .i64))) st2.1)] ?_
      refine AW.ops ?_
      obtain ⟨c10, h⟩ := ck_some.1 h
      refine zA [(6, .own 33), (25, .sl (.sl (.pair (.int .i64) (.pair (.int .i64) (.int .i64)))) slices), (26, .int .i64 (slices.length : Int)), (27, .int .i64 st2.2)] [(33, .arr 66 (.pair (.int .i64) (.pair (.int .i64) (.int .i64))) (st2.1 ++ (slices.getD st2.2.toNat [])))] ?_
      refine ablock_n ?_
      refine athen_n ?_
      refine AW.ops ?_
      obtain ⟨c11, h⟩ := ck_some.1 h
      refine zA [(6, .own 33), (25, .sl (.sl (.pair (.int .i64) (.pair (.int .i64) (.int .i64)))) slices), (26, .int .i64 (slices.length : Int)), (27, .int .i64 (st2.2 + 1))] [(33, .arr 66 (.pair (.int .i64) (.pair (.int .i64) (.int .i64))) (st2.1 ++ (slices.getD st2.2.toNat [])))] ?_
      obtain rfl := Option.some.inj h
      exact ⟨_, rfl, zL [] [] []⟩
     ·refine AW.exit ?_
      refine athen_e ?_
      obtain rfl := Option.some.inj h
      rw [← hd4 _ rfl] at ho3
      have h := ho3
      refine athen_e ?_
      refine ablock_s ?_
      refine athen_n ?_
      exact AW.weaken (zL [] [] []) (hk_slices_Concat_k2 _ h)
 ·refine AW.seq ?_
  refine zo ?_
  refine zB [(0, .sl (.sl (.pair (.int .i64) (.pair (.int .i64) (.int .i64)))) slices), (3, .int .i64 0), (9, .sl (.sl (.pair (.int .i64) (.pair (.int .i64) (.int .i64)))) slices), (10, .int .i64 (slices.length : Int)), (11, .int .i64 0)] [] ?_
  refine AW.block ?_
  obtain ⟨rv16, hw12, ho13⟩ := Option.bind_eq_some_iff.1 h
  refine AW.loopO (slices_Concat_b1 slices) (fun st1 => ⟨fr [(0, .sl (.sl (.pair (.int .i64) (.pair (.int .i64) (.int .i64)))) slices), (3, .int .i64 st1.1), (9, .sl (.sl (.pair (.int .i64) (.pair (.int .i64) (.int .i64)))) slices), (10, .int .i64 (slices.length : Int)), (11, .int .i64 st1.2)], hpGet [], gt⟩) (0, 0) hw12 (zL [] [] []) ?_
  as_aux_lemma =>
   intro st1 x15 h hd14
   unfold slices_Concat_b1 at h
   refine zo ?_
   refine zB [(0, .sl (.sl (.pair (.int .i64) (.pair (.int .i64) (.int .i64)))) slices), (3, .int .i64 st1.1), (9, .sl (.sl (.pair (.int .i64) (.pair (.int .i64) (.int .i64)))) slices), (10, .int .i64 (slices.length : Int)), (11, .int .i64 st1.2), (12, .bool (decide (st1.2 < (slices.length : Int))))] [] ?_
   refine AW.seq ?_
   refine zQ h (fun hb17 h => ?_) (fun hb17 h => ?_)
   ·refine zk ?_
    refine AW.seq ?_
    refine AW.block ?_
    refine zo ?_
    obtain ⟨c18, h⟩ := ck_some.1 h
    obtain ⟨c19, h⟩ := ck_some.1 h
    refine zB [(0, .sl (.sl (.pair (.int .i64) (.pair (.int .i64) (.int .i64)))) slices), (3, .int .i64 st1.1), (5, .sl (.pair (.int .i64) (.pair (.int .i64) (.int .i64))) (slices.getD st1.2.toNat [])), (9, .sl (.sl (.pair (.int .i64) (.pair (.int .i64) (.int .i64)))) slices), (10, .int .i64 (slices.length : Int)), (11, .int .i64 st1.2)] [] ?_
    refine zo ?_
    obtain ⟨c20, h⟩ := ck_some.1 h
    refine zB [(0, .sl (.sl (.pair (.int .i64) (.pair (.int .i64) (.int .i64)))) slices), (3, .int .i64 (st1.1 + ((slices.getD st1.2.toNat []).length : Int))), (9, .sl (.sl (.pair (.int .i64) (.pair (.int .i64) (.int .i64)))) slices), (10, .int .i64 (slices.length : Int)), (11, .int .i64 st1.2)] [] ?_
    refine zo ?_
    refine zB [(0, .sl (.sl (.pair (.int .i64) (.pair (.int .i64) (.int .i64)))) slices), (3, .int .i64 (st1.1 + ((slices.getD st1.2.toNat []).length : Int))), (9, .sl (.sl (.pair (.int .i64) (.pair (.int .i64) (.int .i64)))) slices), (10, .int .i64 (slices.length : Int)), (11, .int .i64 st1.2), (20, .bool (decide ((st1.1 + ((slices.getD st1.2.toNat []).length : Int)) < 0)))] [] ?_
    refine zQ h (fun hb21 h => ?_) (fun hb21 h => ?_)
    ·refine AW.ops ?_
     cases h
    ·refine zm ?_
     refine athen_n ?_
     refine AW.ops ?_
     obtain ⟨c22, h⟩ := ck_some.1 h
     refine zA [(0, .sl (.sl (.pair (.int .i64) (.pair (.int .i64) (.int .i64)))) slices), (3, .int .i64 (st1.1 + ((slices.getD st1.2.toNat []).length : Int))), (9, .sl (.sl (.pair (.int .i64) (.pair (.int .i64) (.int .i64)))) slices), (10, .int .i64 (slices.length : Int)), (11, .int .i64 (st1.2 + 1))] [] ?_
     obtain rfl := Option.some.inj h
     exact ⟨_, rfl, zL [] [] []⟩
   ·refine AW.exit ?_
    refine athen_e ?_
    obtain rfl := Option.some.inj h
    rw [← hd14 _ rfl] at ho13
    have h := ho13
    refine athen_e ?_
    refine ablock_s ?_
    refine athen_n ?_
    exact AW.weaken (zL [] [] []) (hk_slices_Concat_k1 _ h)

theorem hc_refine_Without (s : Int × (List (Int × Int × Int))) (step : Int) {r : Int × (List (Int × Int × Int)) × Int} (h : refine_Without s step = some r) : HC Try.prog 50 [] [.agg [.int .i64 s.1, .sl (.pair (.int .i64) (.pair (.int .i64) (.int .i64))) s.2], .int .i64 step] [(2000, .arr 66 (.pair (.int .i64) (.pair (.int .i64) (.int .i64))) r.2.1)] (.tup [.agg [.int .i64 r.1, .own 2000], .int .i64 r.2.2]) := by
 unfold refine_Without at h
 refine zH Try.func50 [.cell 4 24, .tmp 5] 34 ?_
 refine zo ?_
 refine zB [(1, .int .i64 step), (2, .bp 2 0), (4, .bp 4 0)] [(2, .box 24 [.int .i64 s.1, .sl (.pair (.int .i64) (.pair (.int .i64) (.int .i64))) s.2]), (4, .box 24 [.int .i64 0, .cv (.slice none 0 0)])] ?_
 refine AW.seq ?_
 refine zo ?_
 refine zS 1 [(1, .int .i64 step), (2, .bp 2 0), (4, .bp 4 0), (6, .agg [.int .i64 s.1, .sl (.pair (.int .i64) (.pair (.int .i64) (.int .i64))) s.2])] [(2, .box 24 [.int .i64 s.1, .sl (.pair (.int .i64) (.pair (.int .i64) (.int .i64))) s.2]), (4, .box 24 [.int .i64 0, .cv (.slice none 0 0)])] ?_
 obtain ⟨v0, hv1, h⟩ := Option.bind_eq_some_iff.1 h
 refine zC [] [] (hc_refine_Valid s hv1) [(1, .int .i64 step), (2, .bp 2 0), (4, .bp 4 0), (7, .bool v0)] [(2, .box 24 [.int .i64 s.1, .sl (.pair (.int .i64) (.pair (.int .i64) (.int .i64))) s.2]), (4, .box 24 [.int .i64 0, .cv (.slice none 0 0)])] ?_
 refine zB [(1, .int .i64 step), (2, .bp 2 0), (4, .bp 4 0), (8, .bool (!v0))] [(2, .box 24 [.int .i64 s.1, .sl (.pair (.int .i64) (.pair (.int .i64) (.int .i64))) s.2]), (4, .box 24 [.int .i64 0, .cv (.slice none 0 0)])] ?_
 refine zQ h (fun hb2 h => ?_) (fun hb2 h => ?_)
 ·refine zo ?_
  refine zB [(4, .bp 4 0), (5, .int .i64 50)] [(4, .box 24 [.int .i64 0, .cv (.slice none 0 0)])] ?_
  refine zr ?_
  obtain rfl := Option.some.inj h
  exact zR [] [2000] []
 ·refine zk ?_
  refine AW.seq ?_
  refine zo ?_
  refine zS 3 [(1, .int .i64 step), (2, .bp 2 0), (4, .bp 4 0), (12, .bool (decide (step < 0)))] [(2, .box 24 [.int .i64 s.1, .sl (.pair (.int .i64) (.pair (.int .i64) (.int .i64))) s.2]), (4, .box 24 [.int .i64 0, .cv (.slice none 0 0)])] ?_
  rcases zI h with ⟨hb3, h⟩ | ⟨hb3, h⟩
  ·refine zS 4 [(1, .int .i64 step), (2, .bp 2 0), (4, .bp 4 0), (12, .bool true), (13, .cv (undef)), (16, .cv (undef))] [(2, .box 24 [.int .i64 s.1, .sl (.pair (.int .i64) (.pair (.int .i64) (.int .i64))) s.2]), (4, .box 24 [.int .i64 0, .cv (.slice none 0 0)])] ?_
   refine zB [(1, .int .i64 step), (2, .bp 2 0), (4, .bp 4 0), (18, .bool true)] [(2, .box 24 [.int .i64 s.1, .sl (.pair (.int .i64) (.pair (.int .i64) (.int .i64))) s.2]), (4, .box 24 [.int .i64 0, .cv (.slice none 0 0)])] ?_
   refine AW.cond (b := true) rfl (fun _ => ?_) (fun hb4 => by cases hb4)
   refine zo ?_
   refine zB [(4, .bp 4 0), (5, .int .i64 2)] [(4, .box 24 [.int .i64 0, .cv (.slice none 0 0)])] ?_
   refine zr ?_
   obtain rfl := Option.some.inj h
   exact zR [] [2000] []
  ·refine zS 5 [(1, .int .i64 step), (2, .bp 2 0), (4, .bp 4 0), (12, .bool false), (17, .bool (decide ((s.2.length : Int) ≤ step)))] [(2, .box 24 [.int .i64 s.1, .sl (.pair (.int .i64) (.pair (.int .i64) (.int .i64))) s.2]), (4, .box 24 [.int .i64 0, .cv (.slice none 0 0)])] ?_
   refine zB [(1, .int .i64 step), (2, .bp 2 0), (4, .bp 4 0), (18, .bool (decide ((s.2.length : Int) ≤ step)))] [(2, .box 24 [.int .i64 s.1, .sl (.pair (.int .i64) (.pair (.int .i64) (.int .i64))) s.2]), (4, .box 24 [.int .i64 0, .cv (.slice none 0 0)])] ?_
   refine zQ h (fun hb5 h => ?_) (fun hb5 h => ?_)
   ·refine zo ?_
    refine zB [(4, .bp 4 0), (5, .int .i64 2)] [(4, .box 24 [.int .i64 0, .cv (.slice none 0 0)])] ?_
    refine zr ?_
    obtain rfl := Option.some.inj h
    exact zR [] [2000] []
   ·refine zk ?_
    refine AW.seq ?_
    refine AW.draw tab_ok mixed_ok [(11, [31]), (12, [42000]), (14, [4])] [(0, [2]), (1, [2]), (100014, [])] (by decide) (lex_fast (by kernel_rfl)) ?_
    as_aux_lemma =>
     obtain ⟨c7, h⟩ := ck_some.1 h
     obtain ⟨c8, h⟩ := ck_some.1 h
     refine adops_cut 6 (fun K' hK6 => ?_)
     try dsimp only [List.drop_succ_cons, List.drop_zero, List.take_succ_cons, List.take_zero]
     simp only [go_sem, hb2, hb3, hb5]
     repeat with_reducible refine zN ?_
     refine hK6 _ ?_
     as_aux_lemma =>
      obtain ⟨c10, h⟩ := ck_some.1 h
      obtain ⟨c11, h⟩ := ck_some.1 h
      obtain ⟨c12, h⟩ := ck_some.1 h
      refine adops_cut 6 (fun K' hK9 => ?_)
      try dsimp only [List.drop_succ_cons, List.drop_zero, List.take_succ_cons, List.take_zero]
      simp only [go_sem, hb2, hb3, hb5]
      repeat with_reducible refine zN ?_
      refine hK9 _ ?_
      as_aux_lemma =>
       obtain ⟨v0_2, hv13, h⟩ := Option.bind_eq_some_iff.1 h
       refine adops.call (by first | trivial | rfl) rfl rfl rfl (fun _ h => h) [31] [] (hc_slices_Concat [(s.2.take step.toNat), (s.2.drop (step + 1).toNat)] hv13) rfl (by (simp only [go_sem, hb2, hb3, hb5]) <;> (with_reducible and_intros) <;> first | assumption | rfl | omega | (unfold maxLen; omega)) (by (simp only [go_sem, hb2, hb3, hb5]) <;> (with_reducible and_intros) <;> first | assumption | rfl | omega | (unfold maxLen; omega)) rfl ?_
       refine adops_cut 3 (fun K' hK14 => ?_)
       try dsimp only [List.drop_succ_cons, List.drop_zero, List.take_succ_cons, List.take_zero]
       simp only [go_sem, hb2, hb3, hb5]
       repeat with_reducible refine zN ?_
       refine hK14 _ ?_
       refine adops_nil ?_
       refine athen_n ?_
       refine zV [(4, .bp 4 0), (5, .int .i64 0)] [(4, .box 24 [.int .i64 s.1, .own 42000]), (42000, .arr 66 (.pair (.int .i64) (.pair (.int .i64) (.int .i64))) v0_2)] gt ?_
       as_aux_lemma =>
        refine AW.ret ?_
        obtain rfl := Option.some.inj h
        exact zR [] [] [(2000, 42000)]

theorem hc_linealref05_added_2 (x0 : Int × Int × Int) (l : List (Int × Int × Int)) {r : (List (Int × Int × Int))} (h : linealref05_added_2 x0 l = some r) : HC Try.prog 97 [(1000, .arr 66 (.pair (.int .i64) (.pair (.int .i64) (.int .i64))) l)] [.own 1000, .agg [.int .i64 x0.1, .int .i64 x0.2.1, .int .i64 x0.2.2]] [(2000, .arr 66 (.pair (.int .i64) (.pair (.int .i64) (.int .i64))) r)] (.own 2000) := by
 unfold linealref05_added_2 at h
 refine zH Try.func97 [.tmp 4] 22 ?_
 refine zo ?_
 refine zB [(0, .own 1000), (3, .bp 3 0)] [(3, .box 66 [.int .i64 x0.1, .int .i64 x0.2.1, .int .i64 x0.2.2]), (1000, .arr 66 (.pair (.int .i64) (.pair (.int .i64) (.int .i64))) l)] ?_
 refine AW.have1 (fun _ : Unit => linealref05_added_2_k1 x0 l = some r) (fun _ => ⟨fr [(0, .own 1000), (3, .bp 3 0)], hpGet [(3, .box 66 [.int .i64 x0.1, .int .i64 x0.2.1, .int .i64 x0.2.2]), (1000, .arr 66 (.pair (.int .i64) (.pair (.int .i64) (.int .i64))) l)], gt⟩) (fun _ h => ?_) (fun hk_linealref05_added_2_k1 => ?_)
 ·as_aux_lemma =>
   unfold linealref05_added_2_k1 at h
   refine zo ?_
   obtain ⟨c1, h⟩ := ck_some.1 h
   refine zB [(4, .own 21)] [(21, .arr 66 (.pair (.int .i64) (.pair (.int .i64) (.int .i64))) (l ++ [x0]))] ?_
   refine AW.ret ?_
   obtain rfl := Option.some.inj h
   exact zR [] [] [(2000, 21)]
 ·refine AW.seq ?_
  refine zo ?_
  refine zB [(0, .own 1000), (3, .bp 3 0), (7, .own 1000), (8, .int .i64 (l.length : Int)), (9, .int .i64 0)] [(3, .box 66 [.int .i64 x0.1, .int .i64 x0.2.1, .int .i64 x0.2.2]), (1000, .arr 66 (.pair (.int .i64) (.pair (.int .i64) (.int .i64))) l)] ?_
  refine AW.block ?_
  obtain ⟨rv6, hw2, ho3⟩ := Option.bind_eq_some_iff.1 h
  refine AW.loopO (linealref05_added_2_b1 x0 l) (fun st1 => ⟨fr [(0, .own 1000), (3, .bp 3 0), (7, .own 1000), (8, .int .i64 (l.length : Int)), (9, .int .i64 st1)], hpGet [(3, .box 66 [.int .i64 x0.1, .int .i64 x0.2.1, .int .i64 x0.2.2]), (1000, .arr 66 (.pair (.int .i64) (.pair (.int .i64) (.int .i64))) l)], gt⟩) 0 hw2 (zL [] [] []) ?_
  as_aux_lemma =>
   intro st1 x5 h hd4
   unfold linealref05_added_2_b1 at h
   refine zo ?_
   refine zB [(0, .own 1000), (3, .bp 3 0), (7, .own 1000), (8, .int .i64 (l.length : Int)), (9, .int .i64 st1), (10, .bool (decide (st1 < (l.length : Int))))] [(3, .box 66 [.int .i64 x0.1, .int .i64 x0.2.1, .int .i64 x0.2.2]), (1000, .arr 66 (.pair (.int .i64) (.pair (.int .i64) (.int .i64))) l)] ?_
   refine AW.seq ?_
   refine zQ h (fun hb7 h => ?_) (fun hb7 h => ?_)
   ·refine zk ?_
    refine AW.seq ?_
    refine AW.block ?_
    refine zo ?_
    obtain ⟨c8, h⟩ := ck_some.1 h
    obtain ⟨c9, h⟩ := ck_some.1 h
    refine zB [(0, .own 1000), (3, .bp 3 0), (6, .bp 6 0), (7, .own 1000), (8, .int .i64 (l.length : Int)), (9, .int .i64 st1)] [(3, .box 66 [.int .i64 x0.1, .int .i64 x0.2.1, .int .i64 x0.2.2]), (6, .box 66 [.int .i64 (l.getD st1.toNat (0, 0, 0)).1, .int .i64 (l.getD st1.toNat (0, 0, 0)).2.1, .int .i64 (l.getD st1.toNat (0, 0, 0)).2.2]), (1000, .arr 66 (.pair (.int .i64) (.pair (.int .i64) (.int .i64))) l)] ?_
    refine zo ?_
    refine zS 2 [(0, .own 1000), (3, .bp 3 0), (7, .own 1000), (8, .int .i64 (l.length : Int)), (9, .int .i64 st1), (13, .agg [.int .i64 x0.1, .int .i64 x0.2.1, .int .i64 x0.2.2]), (14, .agg [.int .i64 (l.getD st1.toNat (0, 0, 0)).1, .int .i64 (l.getD st1.toNat (0, 0, 0)).2.1, .int .i64 (l.getD st1.toNat (0, 0, 0)).2.2])] [(3, .box 66 [.int .i64 x0.1, .int .i64 x0.2.1, .int .i64 x0.2.2]), (1000, .arr 66 (.pair (.int .i64) (.pair (.int .i64) (.int .i64))) l)] ?_
    obtain ⟨c10, h⟩ := ck_some.1 h
    obtain ⟨c11, h⟩ := ck_some.1 h
    obtain ⟨c12, h⟩ := ck_some.1 h
    obtain ⟨c13, h⟩ := ck_some.1 h
    obtain ⟨c14, h⟩ := ck_some.1 h
    obtain ⟨c15, h⟩ := ck_some.1 h
    refine AO.aggEq (neg := false) eqty_66 (by decide) rfl rfl (lx := [.int .i64 x0.1, .int .i64 x0.2.1, .int .i64 x0.2.2]) (ly := [.int .i64 (l.getD st1.toNat (0, 0, 0)).1, .int .i64 (l.getD st1.toNat (0, 0, 0)).2.1, .int .i64 (l.getD st1.toNat (0, 0, 0)).2.2]) (by first | rfl | (simp only [go_sem, hb7]) <;> (with_reducible and_intros) <;> first | assumption | rfl | omega | (unfold maxLen; omega)) (by first | rfl | (simp only [go_sem, hb7]) <;> (with_reducible and_intros) <;> first | assumption | rfl | omega | (unfold maxLen; omega)) (by first | rfl | (simp only [go_sem, hb7]) <;> (with_reducible and_intros) <;> first | assumption | rfl | omega | (unfold maxLen; omega)) (by first | rfl | (simp only [go_sem, hb7]) <;> (with_reducible and_intros) <;> first | assumption | rfl | omega | (unfold maxLen; omega)) (by first | assumption | omega | (simp only [go_sem, hb7]) <;> (with_reducible and_intros) <;> first | assumption | rfl | omega | (unfold maxLen; omega)) (by first | assumption | omega | (simp only [go_sem, hb7]) <;> (with_reducible and_intros) <;> first | assumption | rfl | omega | (unfold maxLen; omega)) ?_
    refine zT [(0, .own 1000), (3, .bp 3 0), (7, .own 1000), (8, .int .i64 (l.length : Int)), (9, .int .i64 st1), (15, .bool (decide (x0 = (l.getD st1.toNat (0, 0, 0)))))] [(3, .box 66 [.int .i64 x0.1, .int .i64 x0.2.1, .int .i64 x0.2.2]), (1000, .arr 66 (.pair (.int .i64) (.pair (.int .i64) (.int .i64))) l)] gt ?_
    refine zB [(0, .own 1000), (3, .bp 3 0), (7, .own 1000), (8, .int .i64 (l.length : Int)), (9, .int .i64 st1), (15, .bool (decide (x0 = (l.getD st1.toNat (0, 0, 0)))))] [(3, .box 66 [.int .i64 x0.1, .int .i64 x0.2.1, .int .i64 x0.2.2]), (1000, .arr 66 (.pair (.int .i64) (.pair (.int .i64) (.int .i64))) l)] ?_
    refine zQ h (fun hb16 h => ?_) (fun hb16 h => ?_)
    ·refine zo ?_
     refine zB [(4, .own 1000)] [(1000, .arr 66 (.pair (.int .i64) (.pair (.int .i64) (.int .i64))) l)] ?_
     refine AW.ret ?_
     refine ablock_r ?_
     refine athen_r ?_
     obtain rfl := Option.some.inj h
     rw [← hd4 _ rfl] at ho3
     have h := ho3
     try simp only at h
     refine athen_r ?_
     refine ablock_r ?_
     refine athen_r ?_
     obtain rfl := Option.some.inj h
     exact zR [] [] [(2000, 1000)]
    ·refine zm ?_
     refine athen_n ?_
     refine AW.ops ?_
     obtain ⟨c17, h⟩ := ck_some.1 h
     refine zA [(0, .own 1000), (3, .bp 3 0), (7, .own 1000), (8, .int .i64 (l.length : Int)), (9, .int .i64 (st1 + 1))] [(3, .box 66 [.int .i64 x0.1, .int .i64 x0.2.1, .int .i64 x0.2.2]), (1000, .arr 66 (.pair (.int .i64) (.pair (.int .i64) (.int .i64))) l)] ?_
     obtain rfl := Option.some.inj h
     exact ⟨_, rfl, zL [] [] []⟩
   ·refine AW.exit ?_
    refine athen_e ?_
    obtain rfl := Option.some.inj h
    rw [← hd4 _ rfl] at ho3
    have h := ho3
    try simp only at h
    refine athen_e ?_
    refine ablock_s ?_
    refine athen_n ?_
    exact AW.weaken (zL [] [] []) (hk_linealref05_added_2_k1 () h)

end Go.Proofs.Ytifleoceebaooaa
