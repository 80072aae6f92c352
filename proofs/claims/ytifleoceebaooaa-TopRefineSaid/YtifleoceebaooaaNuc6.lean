/-
  Made by wip/tool/dc.py out of the print of the program: contracts.
-/
import Derived.Test.YtifleoceebaooaaRfp
import Derived.Test.YtifleoceebaooaaShr
import Derived.Test.YtifleoceebaooaaAvd
import Derived.Test.YtifleoceebaooaaNuc1
import Derived.Test.YtifleoceebaooaaNuc2
namespace Go.Proofs.Ytifleoceebaooaa
open Go.RowKit

set_option linter.unusedSimpArgs false
set_option linter.unusedVariables false
set_option linter.constructorNameAsVariable false

set_option maxRecDepth 100000
set_option maxHeartbeats 2000000

theorem hc_slices_Grow (n : Int) {r : Unit} (h : slices_Grow n = some r) : HC Try.prog 120 [] [.cv (.slice none 0 0), .int .i64 n] [(2000, .arr 66 Y0 [])] (.own 2000) := by
 unfold slices_Grow at h
 refine zH Try.func120 [.tmp 4] 27 ?_
 refine zo ?_
 refine zB [(0, .cv (.slice none 0 0)), (1, .int .i64 n)] [] ?_
 refine AW.seq ?_
 refine zo ?_
 refine zB [(0, .cv (.slice none 0 0)), (1, .int .i64 n), (6, .bool (decide (n < 0)))] [] ?_
 refine zQ h (fun hb1 h => ?_) (fun hb1 h => ?_)
 ·refine AW.ops ?_
  cases h
 ·refine zk ?_
  refine AW.seq ?_
  refine zo ?_
  refine zS 2 [(0, .cv (.slice none 0 0)), (8, .int .i64 n), (9, .cv (.slice none 0 0))] [] ?_
  refine AO.capNil tab_ok (by decide) rfl rfl rfl rfl rfl tab_22 rfl rfl ?_
  refine zT [(0, .cv (.slice none 0 0)), (8, .int .i64 n), (10, .int .i64 0)] [] gt ?_
  obtain ⟨c2, h⟩ := ck_some.1 h
  obtain ⟨c3, h⟩ := ck_some.1 h
  refine zB [(0, .cv (.slice none 0 0)), (1, .int .i64 (n - (0 - 0)))] [] ?_
  refine zo ?_
  refine zB [(0, .cv (.slice none 0 0)), (1, .int .i64 (n - (0 - 0))), (16, .bool (decide (0 < (n - (0 - 0)))))] [] ?_
  refine zQ h (fun hb4 h => ?_) (fun hb4 h => ?_)
  ·refine AW.ops ?_
   refine zS 2 [(0, .cv (.slice none 0 0)), (1, .int .i64 (n - (0 - 0))), (17, .cv (.slice none 0 0)), (18, .cv (.slice none 0 0))] [] ?_
   refine AO.capNil tab_ok (by decide) rfl rfl rfl rfl rfl tab_22 rfl rfl ?_
   refine zT [(0, .cv (.slice none 0 0)), (1, .int .i64 (n - (0 - 0))), (17, .cv (.slice none 0 0)), (19, .int .i64 0)] [] gt ?_
   refine AO.sliceNil tab_ok (by decide) rfl rfl tab_22 rfl tab_66 rfl rfl ?_
   refine zT [(0, .cv (.slice none 0 0)), (1, .int .i64 (n - (0 - 0))), (20, .cv (.slice none 0 0))] [] gt ?_
   refine zS 1 [(0, .cv (.slice none 0 0)), (20, .cv (.slice none 0 0)), (21, .int .i64 (n - (0 - 0)))] [] ?_
   obtain ⟨c5, h⟩ := ck_some.1 h
   obtain ⟨c6, h⟩ := ck_some.1 h
   obtain ⟨c7, h⟩ := ck_some.1 h
   refine AO.appendZeros tab_ok (by decide) (by decide) rfl rfl rfl rfl rfl tab_22 rfl tab_66 rfl tab_3 rfl rfl rfl (by first | assumption | omega | (simp only [go_sem, hb1, hb4]) <;> (with_reducible and_intros) <;> first | assumption | rfl | omega | (unfold maxLen; omega)) (by first | assumption | omega | (simp only [go_sem, hb1, hb4]) <;> (with_reducible and_intros) <;> first | assumption | rfl | omega | (unfold maxLen; omega)) (by first | assumption | omega | (simp only [go_sem, hb1, hb4]) <;> (with_reducible and_intros) <;> first | assumption | rfl | omega | (unfold maxLen; omega)) ?_
   refine zT [(0, .cv (.slice none 0 0)), (22, .own 22)] [(22, .arr 66 Y0 (List.replicate (n - (0 - 0)).toNat ((0, 0, 0) : Int × Int × Int)))] gt ?_
   refine zS 2 [(22, .own 22), (24, .int .i64 0)] [(22, .arr 66 Y0 (List.replicate (n - (0 - 0)).toNat ((0, 0, 0) : Int × Int × Int)))] ?_
   obtain ⟨c8, h⟩ := ck_some.1 h
   obtain ⟨c9, h⟩ := ck_some.1 h
   refine AO.sliceOwn tab_ok (by decide) (by decide) rfl rfl tab_22 rfl tab_66 rfl rfl rfl rfl (by first | assumption | omega | (simp only [go_sem, hb1, hb4]) <;> (with_reducible and_intros) <;> first | assumption | rfl | omega | (unfold maxLen; omega)) (by first | assumption | omega | (simp only [go_sem, hb1, hb4]) <;> (with_reducible and_intros) <;> first | assumption | rfl | omega | (unfold maxLen; omega)) ?_
   refine zT [(25, .own 25)] [(25, .arr 66 Y0 [])] gt ?_
   refine zB [(0, .own 25)] [(25, .arr 66 Y0 [])] ?_
   refine zo ?_
   refine zB [(4, .own 25)] [(25, .arr 66 Y0 [])] ?_
   refine AW.ret ?_
   obtain rfl := Option.some.inj h
   exact zR [] [] [(2000, 25)]
  ·refine zk ?_
   refine zo ?_
   refine zB [(4, .cv (.slice none 0 0))] [] ?_
   refine AW.ret ?_
   obtain rfl := Option.some.inj h
   exact zR [] [2000] []

theorem hc_slices_Concat (slices : List (List (Int × Int × Int))) {r : (List (Int × Int × Int))} (h : slices_Concat slices = some r) : HC Try.prog 98 [] [.sl (.sl Y0) slices] [(2000, .arr 66 Y0 r)] (.own 2000) := by
 unfold slices_Concat at h
 refine zH Try.func98 [.tmp 2] 36 ?_
 refine zo ?_
 refine zB [(0, .sl (.sl Y0) slices)] [] ?_
 refine zo ?_
 refine zB [(0, .sl (.sl Y0) slices), (3, .int .i64 0)] [] ?_
 refine AW.have1 (fun b1 : Int => slices_Concat_k1 slices b1 = some r) (fun b1 => ⟨fr [(0, .sl (.sl Y0) slices), (3, .int .i64 b1)], hpGet [], gt⟩) (fun b1 h => ?_) (fun hk_slices_Concat_k1 => ?_)
 ·as_aux_lemma =>
   unfold slices_Concat_k1 at h
   refine zo ?_
   refine zS 1 [(0, .sl (.sl Y0) slices), (23, .int .i64 b1)] [] ?_
   obtain ⟨v0, hv1, h⟩ := Option.bind_eq_some_iff.1 h
   refine zC [] [] (hc_slices_Grow b1 hv1) [(0, .sl (.sl Y0) slices), (24, .own 34000)] [(34000, .arr 66 Y0 [])] ?_
   refine zB [(0, .sl (.sl Y0) slices), (6, .own 34000)] [(34000, .arr 66 Y0 [])] ?_
   refine AW.have1 (fun b2 : (List (Int × Int × Int)) => slices_Concat_k2 b2 = some r) (fun b2 => ⟨fr [(6, .own 33)], hpGet [(33, .arr 66 Y0 b2)], gt⟩) (fun b2 h => ?_) (fun hk_slices_Concat_k2 => ?_)
   ·as_aux_lemma =>
     unfold slices_Concat_k2 at h
     refine zo ?_
     refine zB [(2, .own 33)] [(33, .arr 66 Y0 b2)] ?_
     refine AW.ret ?_
     obtain rfl := Option.some.inj h
     exact zR [] [] [(2000, 33)]
   ·refine AW.seq ?_
    refine zo ?_
    refine zB [(6, .own 34000), (25, .sl (.sl Y0) slices), (26, .int .i64 (slices.length : Int)), (27, .int .i64 0)] [(34000, .arr 66 Y0 [])] ?_
    refine AW.block ?_
    obtain ⟨rv6, hw2, ho3⟩ := Option.bind_eq_some_iff.1 h
    refine AW.loopO (slices_Concat_b2 slices) (fun st2 => ⟨fr [(6, .own 33), (25, .sl (.sl Y0) slices), (26, .int .i64 (slices.length : Int)), (27, .int .i64 st2.2)], hpGet [(33, .arr 66 Y0 st2.1)], gt⟩) ([], 0) hw2 (zL [] [] [(33, 34000)]) ?_
    as_aux_lemma =>
     intro st2 x5 h hd4
     unfold slices_Concat_b2 at h
     refine zo ?_
     refine zB [(6, .own 33), (25, .sl (.sl Y0) slices), (26, .int .i64 (slices.length : Int)), (27, .int .i64 st2.2), (28, .bool (decide (st2.2 < (slices.length : Int))))] [(33, .arr 66 Y0 st2.1)] ?_
     refine AW.seq ?_
     refine zQ h (fun hb7 h => ?_) (fun hb7 h => ?_)
     ·refine zk ?_
      refine AW.seq ?_
      refine AW.block ?_
      refine zo ?_
      obtain ⟨c8, h⟩ := ck_some.1 h
      obtain ⟨c9, h⟩ := ck_some.1 h
      refine zB [(6, .own 33), (8, .sl Y0 (slices.getD st2.2.toNat [])), (25, .sl (.sl Y0) slices), (26, .int .i64 (slices.length : Int)), (27, .int .i64 st2.2)] [(33, .arr 66 Y0 st2.1)] ?_
      refine AW.ops ?_
      obtain ⟨c10, h⟩ := ck_some.1 h
      refine zA [(6, .own 33), (25, .sl (.sl Y0) slices), (26, .int .i64 (slices.length : Int)), (27, .int .i64 st2.2)] [(33, .arr 66 Y0 (st2.1 ++ (slices.getD st2.2.toNat [])))] ?_
      refine ablock_n ?_
      refine athen_n ?_
      refine AW.ops ?_
      obtain ⟨c11, h⟩ := ck_some.1 h
      refine zA [(6, .own 33), (25, .sl (.sl Y0) slices), (26, .int .i64 (slices.length : Int)), (27, .int .i64 (st2.2 + 1))] [(33, .arr 66 Y0 (st2.1 ++ (slices.getD st2.2.toNat [])))] ?_
      obtain rfl := Option.some.inj h
      exact ⟨_, rfl, zL [] [] []⟩
     ·refine AW.exit ?_
      refine athen_e ?_
      obtain rfl := Option.some.inj h
      rw [← hd4 _ rfl] at ho3
      have h := ho3
      refine athen_e ?_
      refine ablock_s ?_
      refine athen_n ?_
      exact AW.weaken (zL [] [] []) (hk_slices_Concat_k2 _ h)
 ·refine AW.seq ?_
  refine zo ?_
  refine zB [(0, .sl (.sl Y0) slices), (3, .int .i64 0), (9, .sl (.sl Y0) slices), (10, .int .i64 (slices.length : Int)), (11, .int .i64 0)] [] ?_
  refine AW.block ?_
  obtain ⟨rv16, hw12, ho13⟩ := Option.bind_eq_some_iff.1 h
  refine AW.loopO (slices_Concat_b1 slices) (fun st1 => ⟨fr [(0, .sl (.sl Y0) slices), (3, .int .i64 st1.1), (9, .sl (.sl Y0) slices), (10, .int .i64 (slices.length : Int)), (11, .int .i64 st1.2)], hpGet [], gt⟩) (0, 0) hw12 (zL [] [] []) ?_
  as_aux_lemma =>
   intro st1 x15 h hd14
   unfold slices_Concat_b1 at h
   refine zo ?_
   refine zB [(0, .sl (.sl Y0) slices), (3, .int .i64 st1.1), (9, .sl (.sl Y0) slices), (10, .int .i64 (slices.length : Int)), (11, .int .i64 st1.2), (12, .bool (decide (st1.2 < (slices.length : Int))))] [] ?_
   refine AW.seq ?_
   refine zQ h (fun hb17 h => ?_) (fun hb17 h => ?_)
   ·refine zk ?_
    refine AW.seq ?_
    refine AW.block ?_
    refine zo ?_
    obtain ⟨c18, h⟩ := ck_some.1 h
    obtain ⟨c19, h⟩ := ck_some.1 h
    refine zB [(0, .sl (.sl Y0) slices), (3, .int .i64 st1.1), (5, .sl Y0 (slices.getD st1.2.toNat [])), (9, .sl (.sl Y0) slices), (10, .int .i64 (slices.length : Int)), (11, .int .i64 st1.2)] [] ?_
    refine zo ?_
    obtain ⟨c20, h⟩ := ck_some.1 h
    refine zB [(0, .sl (.sl Y0) slices), (3, .int .i64 (st1.1 + ((slices.getD st1.2.toNat []).length : Int))), (9, .sl (.sl Y0) slices), (10, .int .i64 (slices.length : Int)), (11, .int .i64 st1.2)] [] ?_
    refine zo ?_
    refine zB [(0, .sl (.sl Y0) slices), (3, .int .i64 (st1.1 + ((slices.getD st1.2.toNat []).length : Int))), (9, .sl (.sl Y0) slices), (10, .int .i64 (slices.length : Int)), (11, .int .i64 st1.2), (20, .bool (decide ((st1.1 + ((slices.getD st1.2.toNat []).length : Int)) < 0)))] [] ?_
    refine zQ h (fun hb21 h => ?_) (fun hb21 h => ?_)
    ·refine AW.ops ?_
     cases h
    ·refine zm ?_
     refine athen_n ?_
     refine AW.ops ?_
     obtain ⟨c22, h⟩ := ck_some.1 h
     refine zA [(0, .sl (.sl Y0) slices), (3, .int .i64 (st1.1 + ((slices.getD st1.2.toNat []).length : Int))), (9, .sl (.sl Y0) slices), (10, .int .i64 (slices.length : Int)), (11, .int .i64 (st1.2 + 1))] [] ?_
     obtain rfl := Option.some.inj h
     exact ⟨_, rfl, zL [] [] []⟩
   ·refine AW.exit ?_
    refine athen_e ?_
    obtain rfl := Option.some.inj h
    rw [← hd14 _ rfl] at ho13
    have h := ho13
    refine athen_e ?_
    refine ablock_s ?_
    refine athen_n ?_
    exact AW.weaken (zL [] [] []) (hk_slices_Concat_k1 _ h)

theorem hc_refine_Without (s : Int × (List (Int × Int × Int))) (step : Int) {r : Int × (List (Int × Int × Int)) × Int} (h : refine_Without s step = some r) : HC Try.prog 50 [] [.agg [.int .i64 s.1, .sl Y0 s.2], .int .i64 step] [(2000, .arr 66 Y0 r.2.1)] (.tup [.agg [.int .i64 r.1, .own 2000], .int .i64 r.2.2]) := by
 unfold refine_Without at h
 refine zH Try.func50 [.cell 4 24, .tmp 5] 34 ?_
 refine zo ?_
 refine zB [(1, .int .i64 step), (2, .bp 2 0), (4, .bp 4 0)] [(2, .box 24 [.int .i64 s.1, .sl Y0 s.2]), (4, .box 24 [.int .i64 0, .cv (.slice none 0 0)])] ?_
 refine AW.seq ?_
 refine zo ?_
 refine zS 1 [(1, .int .i64 step), (2, .bp 2 0), (4, .bp 4 0), (6, .agg [.int .i64 s.1, .sl Y0 s.2])] [(2, .box 24 [.int .i64 s.1, .sl Y0 s.2]), (4, .box 24 [.int .i64 0, .cv (.slice none 0 0)])] ?_
 obtain ⟨v0, hv1, h⟩ := Option.bind_eq_some_iff.1 h
 refine zC [] [] (hc_refine_Valid s hv1) [(1, .int .i64 step), (2, .bp 2 0), (4, .bp 4 0), (7, .bool v0)] [(2, .box 24 [.int .i64 s.1, .sl Y0 s.2]), (4, .box 24 [.int .i64 0, .cv (.slice none 0 0)])] ?_
 refine zB [(1, .int .i64 step), (2, .bp 2 0), (4, .bp 4 0), (8, .bool (!v0))] [(2, .box 24 [.int .i64 s.1, .sl Y0 s.2]), (4, .box 24 [.int .i64 0, .cv (.slice none 0 0)])] ?_
 refine zQ h (fun hb2 h => ?_) (fun hb2 h => ?_)
 ·refine zo ?_
  refine zB [(4, .bp 4 0), (5, .int .i64 50)] [(4, .box 24 [.int .i64 0, .cv (.slice none 0 0)])] ?_
  refine zr ?_
  obtain rfl := Option.some.inj h
  exact zR [] [2000] []
 ·refine zk ?_
  refine AW.seq ?_
  refine zo ?_
  refine zS 3 [(1, .int .i64 step), (2, .bp 2 0), (4, .bp 4 0), (12, .bool (decide (step < 0)))] [(2, .box 24 [.int .i64 s.1, .sl Y0 s.2]), (4, .box 24 [.int .i64 0, .cv (.slice none 0 0)])] ?_
  rcases zI h with ⟨hb3, h⟩ | ⟨hb3, h⟩
  ·refine zS 4 [(1, .int .i64 step), (2, .bp 2 0), (4, .bp 4 0), (12, .bool true), (13, .cv (undef)), (16, .cv (undef))] [(2, .box 24 [.int .i64 s.1, .sl Y0 s.2]), (4, .box 24 [.int .i64 0, .cv (.slice none 0 0)])] ?_
   refine zB [(1, .int .i64 step), (2, .bp 2 0), (4, .bp 4 0), (18, .bool true)] [(2, .box 24 [.int .i64 s.1, .sl Y0 s.2]), (4, .box 24 [.int .i64 0, .cv (.slice none 0 0)])] ?_
   refine AW.cond (b := true) rfl (fun _ => ?_) (fun hb4 => by cases hb4)
   refine zo ?_
   refine zB [(4, .bp 4 0), (5, .int .i64 2)] [(4, .box 24 [.int .i64 0, .cv (.slice none 0 0)])] ?_
   refine zr ?_
   obtain rfl := Option.some.inj h
   exact zR [] [2000] []
  ·refine zS 5 [(1, .int .i64 step), (2, .bp 2 0), (4, .bp 4 0), (12, .bool false), (17, .bool (decide ((s.2.length : Int) ≤ step)))] [(2, .box 24 [.int .i64 s.1, .sl Y0 s.2]), (4, .box 24 [.int .i64 0, .cv (.slice none 0 0)])] ?_
   refine zB [(1, .int .i64 step), (2, .bp 2 0), (4, .bp 4 0), (18, .bool (decide ((s.2.length : Int) ≤ step)))] [(2, .box 24 [.int .i64 s.1, .sl Y0 s.2]), (4, .box 24 [.int .i64 0, .cv (.slice none 0 0)])] ?_
   refine zQ h (fun hb5 h => ?_) (fun hb5 h => ?_)
   ·refine zo ?_
    refine zB [(4, .bp 4 0), (5, .int .i64 2)] [(4, .box 24 [.int .i64 0, .cv (.slice none 0 0)])] ?_
    refine zr ?_
    obtain rfl := Option.some.inj h
    exact zR [] [2000] []
   ·refine zk ?_
    refine AW.seq ?_
    refine AW.draw tab_ok mixed_ok [(11, [31]), (12, [42000]), (14, [4])] [(0, [2]), (1, [2]), (100014, [])] (by decide) (lex_fast (by kernel_rfl)) ?_
    as_aux_lemma =>
     obtain ⟨c7, h⟩ := ck_some.1 h
     obtain ⟨c8, h⟩ := ck_some.1 h
     refine adops_cut 6 (fun K' hK6 => ?_)
     try dsimp only [List.drop_succ_cons, List.drop_zero, List.take_succ_cons, List.take_zero]
     simp only [go_sem, hb2, hb3, hb5]
     repeat with_reducible refine zN ?_
     refine hK6 _ ?_
     as_aux_lemma =>
      obtain ⟨c10, h⟩ := ck_some.1 h
      obtain ⟨c11, h⟩ := ck_some.1 h
      obtain ⟨c12, h⟩ := ck_some.1 h
      refine adops_cut 6 (fun K' hK9 => ?_)
      try dsimp only [List.drop_succ_cons, List.drop_zero, List.take_succ_cons, List.take_zero]
      simp only [go_sem, hb2, hb3, hb5]
      repeat with_reducible refine zN ?_
      refine hK9 _ ?_
      as_aux_lemma =>
       obtain ⟨v0_2, hv13, h⟩ := Option.bind_eq_some_iff.1 h
       refine adops.call (by first | trivial | rfl) rfl rfl rfl (fun _ h => h) [31] [] (hc_slices_Concat [(s.2.take step.toNat), (s.2.drop (step + 1).toNat)] hv13) rfl (by (simp only [go_sem, hb2, hb3, hb5]) <;> (with_reducible and_intros) <;> first | assumption | rfl | omega | (unfold maxLen; omega)) (by (simp only [go_sem, hb2, hb3, hb5]) <;> (with_reducible and_intros) <;> first | assumption | rfl | omega | (unfold maxLen; omega)) rfl ?_
       refine adops_cut 3 (fun K' hK14 => ?_)
       try dsimp only [List.drop_succ_cons, List.drop_zero, List.take_succ_cons, List.take_zero]
       simp only [go_sem, hb2, hb3, hb5]
       repeat with_reducible refine zN ?_
       refine hK14 _ ?_
       refine adops_nil ?_
       refine athen_n ?_
       refine zV [(4, .bp 4 0), (5, .int .i64 0)] [(4, .box 24 [.int .i64 s.1, .own 42000]), (42000, .arr 66 Y0 v0_2)] gt ?_
       as_aux_lemma =>
        refine AW.ret ?_
        obtain rfl := Option.some.inj h
        exact zR [] [] [(2000, 42000)]

theorem hc_slices_Index_2 (s : List Int) (v0 : Int) {r : Int} (h : slices_Index_2 s v0 = some r) : HC Try.prog 119 [] [.sl (.int .u8) s, .int .u8 v0] [] (.int .i64 r) := by
 unfold slices_Index_2 at h
 refine zH Try.func119 [.tmp 4] 19 ?_
 refine zo ?_
 refine zB [(0, .sl (.int .u8) s), (1, .int .u8 v0)] [] ?_
 refine AW.have1 (fun _ : Unit => slices_Index_2_k1 = some r) (fun _ => ⟨fr [], hpGet [], gt⟩) (fun _ h => ?_) (fun hk_slices_Index_2_k1 => ?_)
 ·as_aux_lemma =>
   unfold slices_Index_2_k1 at h
   refine zo ?_
   refine zB [(4, .int .i64 (-1))] [] ?_
   refine AW.ret ?_
   obtain rfl := Option.some.inj h
   exact zR [] [] []
 ·refine AW.seq ?_
  refine zo ?_
  refine zB [(0, .sl (.int .u8) s), (1, .int .u8 v0), (7, .int .i64 (s.length : Int)), (8, .int .i64 0)] [] ?_
  refine AW.block ?_
  obtain ⟨rv5, hw1, ho2⟩ := Option.bind_eq_some_iff.1 h
  refine AW.loopO (slices_Index_2_b1 s v0) (fun st1 => ⟨fr [(0, .sl (.int .u8) s), (1, .int .u8 v0), (7, .int .i64 (s.length : Int)), (8, .int .i64 st1)], hpGet [], gt⟩) 0 hw1 (zL [] [] []) ?_
  as_aux_lemma =>
   intro st1 x4 h hd3
   unfold slices_Index_2_b1 at h
   refine zo ?_
   refine zB [(0, .sl (.int .u8) s), (1, .int .u8 v0), (7, .int .i64 (s.length : Int)), (8, .int .i64 st1), (9, .bool (decide (st1 < (s.length : Int))))] [] ?_
   refine AW.seq ?_
   refine zQ h (fun hb6 h => ?_) (fun hb6 h => ?_)
   ·refine zk ?_
    refine AW.seq ?_
    refine AW.block ?_
    refine zo ?_
    refine zB [(0, .sl (.int .u8) s), (1, .int .u8 v0), (5, .int .i64 st1), (7, .int .i64 (s.length : Int)), (8, .int .i64 st1)] [] ?_
    refine zo ?_
    obtain ⟨c7, h⟩ := ck_some.1 h
    obtain ⟨c8, h⟩ := ck_some.1 h
    refine zS 5 [(0, .sl (.int .u8) s), (1, .int .u8 v0), (5, .int .i64 st1), (7, .int .i64 (s.length : Int)), (8, .int .i64 st1), (11, .int .u8 v0), (15, .int .u8 (s.getD st1.toNat 0))] [] ?_
    refine zB [(0, .sl (.int .u8) s), (1, .int .u8 v0), (5, .int .i64 st1), (7, .int .i64 (s.length : Int)), (8, .int .i64 st1), (16, .bool (decide (v0 = (s.getD st1.toNat 0))))] [] ?_
    refine zQ h (fun hb9 h => ?_) (fun hb9 h => ?_)
    ·refine zo ?_
     refine zB [(4, .int .i64 st1)] [] ?_
     refine AW.ret ?_
     refine ablock_r ?_
     refine athen_r ?_
     obtain rfl := Option.some.inj h
     rw [← hd3 _ rfl] at ho2
     have h := ho2
     try simp only at h
     refine athen_r ?_
     refine ablock_r ?_
     refine athen_r ?_
     obtain rfl := Option.some.inj h
     exact zR [] [] []
    ·refine zm ?_
     refine athen_n ?_
     refine AW.ops ?_
     obtain ⟨c10, h⟩ := ck_some.1 h
     refine zA [(0, .sl (.int .u8) s), (1, .int .u8 v0), (7, .int .i64 (s.length : Int)), (8, .int .i64 (st1 + 1))] [] ?_
     obtain rfl := Option.some.inj h
     exact ⟨_, rfl, zL [] [] []⟩
   ·refine AW.exit ?_
    refine athen_e ?_
    obtain rfl := Option.some.inj h
    rw [← hd3 _ rfl] at ho2
    have h := ho2
    try simp only at h
    refine athen_e ?_
    refine ablock_s ?_
    refine athen_n ?_
    exact AW.weaken (zL [] [] []) (hk_slices_Index_2_k1 () h)

theorem hc_slices_Contains_2 (s : List Int) (v0 : Int) {r : Bool} (h : slices_Contains_2 s v0 = some r) : HC Try.prog 118 [] [.sl (.int .u8) s, .int .u8 v0] [] (.bool r) := by
 unfold slices_Contains_2 at h
 refine zH Try.func118 [.tmp 4] 9 ?_
 refine zo ?_
 refine zB [(0, .sl (.int .u8) s), (1, .int .u8 v0)] [] ?_
 refine zo ?_
 refine zS 2 [(5, .sl (.int .u8) s), (6, .int .u8 v0)] [] ?_
 obtain ⟨v0_2, hv1, h⟩ := Option.bind_eq_some_iff.1 h
 refine zC [] [] (hc_slices_Index_2 s v0 hv1) [(7, .int .i64 v0_2)] [] ?_
 refine zB [(4, .bool (decide (0 ≤ v0_2)))] [] ?_
 refine AW.ret ?_
 obtain rfl := Option.some.inj h
 exact zR [] [] []

theorem hc_refine_frame_seen (f : (Int × (List (Int × Int × Int))) × (El T69)) {r : Int × (List (Int × Int × Int)) × Bool} (h : refine_frame_seen f = some r) : HC Try.prog 94 [] [.agg (.int .i64 f.1.1 :: (.sl Y0 f.1.2 :: (cellsX T69 f.2)))] [(2000, .arr 66 Y0 r.2.1)] (.tup [.agg [.int .i64 r.1, .own 2000], .bool r.2.2]) := by
 unfold refine_frame_seen at h
 refine zH Try.func94 [.cell 2 24, .tmp 3] 56 ?_
 refine zo ?_
 refine zB [(1, .bp 1 0), (2, .bp 2 0)] [(1, .box 71 (.int .i64 f.1.1 :: (.sl Y0 f.1.2 :: (cellsX T69 f.2)))), (2, .box 24 [.int .i64 0, .cv (.slice none 0 0)])] ?_
 refine zo ?_
 refine zS 1 [(1, .bp 1 0), (2, .bp 2 0), (9, .agg (.int .i64 f.1.1 :: (.sl Y0 f.1.2 :: (cellsX T69 f.2))))] [(1, .box 71 (.int .i64 f.1.1 :: (.sl Y0 f.1.2 :: (cellsX T69 f.2)))), (2, .box 24 [.int .i64 0, .cv (.slice none 0 0)])] ?_
 obtain ⟨v0, hv1, h⟩ := Option.bind_eq_some_iff.1 h
 refine zC [] [] (hc_refine_frame_begin f hv1) [(1, .bp 1 0), (2, .bp 2 0), (10, .int .u8 (intAt T69 f.2 0))] [(1, .box 71 (.int .i64 f.1.1 :: (.sl Y0 f.1.2 :: (cellsX T69 f.2)))), (2, .box 24 [.int .i64 0, .cv (.slice none 0 0)])] ?_
 refine zB [(1, .bp 1 0), (2, .bp 2 0), (4, .own 11)] [(1, .box 71 (.int .i64 f.1.1 :: (.sl Y0 f.1.2 :: (cellsX T69 f.2)))), (2, .box 24 [.int .i64 0, .cv (.slice none 0 0)]), (11, .arr 67 (.int .u8) [(intAt T69 f.2 0)])] ?_
 refine zo ?_
 refine zB [(1, .bp 1 0), (2, .bp 2 0), (4, .own 11), (5, .cv (.slice none 0 0))] [(1, .box 71 (.int .i64 f.1.1 :: (.sl Y0 f.1.2 :: (cellsX T69 f.2)))), (2, .box 24 [.int .i64 0, .cv (.slice none 0 0)]), (11, .arr 67 (.int .u8) [(intAt T69 f.2 0)])] ?_
 refine AW.have1 (fun b3_3 : (List Int) × (List (Int × Int × Int)) => refine_frame_seen_k1 b3_3 = some r) (fun b3_3 => ⟨fr [(2, .bp 2 0), (4, .own 11), (5, .own 51)], hpGet [(2, .box 24 [.int .i64 0, .cv (.slice none 0 0)]), (11, .arr 67 (.int .u8) b3_3.1), (51, .arr 66 Y0 b3_3.2)], gt⟩) (fun b3_3 h => ?_) (fun hk_refine_frame_seen_k1 => ?_)
 ·as_aux_lemma =>
   unfold refine_frame_seen_k1 at h
   refine zo ?_
   refine zS 5 [(2, .bp 2 0)] [(2, .box 24 [.int .i64 (b3_3.1.length : Int), .own 51]), (51, .arr 66 Y0 b3_3.2)] ?_
   refine zB [(2, .bp 2 0), (3, .bool true)] [(2, .box 24 [.int .i64 (b3_3.1.length : Int), .own 51]), (51, .arr 66 Y0 b3_3.2)] ?_
   refine AW.ret ?_
   obtain rfl := Option.some.inj h
   exact zR [] [] [(2000, 51)]
 ·refine AW.seq ?_
  refine zo ?_
  refine zB [(1, .bp 1 0), (2, .bp 2 0), (4, .own 11), (5, .cv (.slice none 0 0)), (6, .int .i64 0)] [(1, .box 71 (.int .i64 f.1.1 :: (.sl Y0 f.1.2 :: (cellsX T69 f.2)))), (2, .box 24 [.int .i64 0, .cv (.slice none 0 0)]), (11, .arr 67 (.int .u8) [(intAt T69 f.2 0)])] ?_
  refine AW.block ?_
  obtain ⟨rv6, hw2, ho3⟩ := Option.bind_eq_some_iff.1 h
  refine AW.loopO (refine_frame_seen_b1 f) (fun st1 => ⟨fr [(1, .bp 1 0), (2, .bp 2 0), (4, .own 11), (5, .own 51), (6, .int .i64 st1.2.2)], hpGet [(1, .box 71 (.int .i64 f.1.1 :: (.sl Y0 f.1.2 :: (cellsX T69 f.2)))), (2, .box 24 [.int .i64 0, .cv (.slice none 0 0)]), (11, .arr 67 (.int .u8) st1.1), (51, .arr 66 Y0 st1.2.1)], gt⟩) ([(intAt T69 f.2 0)], [], 0) hw2 (zL [] [51] []) ?_
  as_aux_lemma =>
   intro st1 x5 h hd4
   unfold refine_frame_seen_b1 at h
   refine AW.seq ?_
   refine zo ?_
   refine zB [(1, .bp 1 0), (2, .bp 2 0), (4, .own 11), (5, .own 51), (6, .int .i64 st1.2.2), (15, .bool (decide (st1.2.2 < (st1.1.length : Int))))] [(1, .box 71 (.int .i64 f.1.1 :: (.sl Y0 f.1.2 :: (cellsX T69 f.2)))), (2, .box 24 [.int .i64 0, .cv (.slice none 0 0)]), (11, .arr 67 (.int .u8) st1.1), (51, .arr 66 Y0 st1.2.1)] ?_
   refine zQ h (fun hb7 h => ?_) (fun hb7 h => ?_)
   ·refine zk ?_
    refine AW.have1 (fun b3_2 : (List Int) × (List (Int × Int × Int)) => refine_frame_seen_k2 st1 b3_2 = some x5) (fun b3_2 => ⟨fr [(1, .bp 1 0), (2, .bp 2 0), (4, .own 11), (5, .own 51), (6, .int .i64 st1.2.2)], hpGet [(1, .box 71 (.int .i64 f.1.1 :: (.sl Y0 f.1.2 :: (cellsX T69 f.2)))), (2, .box 24 [.int .i64 0, .cv (.slice none 0 0)]), (11, .arr 67 (.int .u8) b3_2.1), (51, .arr 66 Y0 b3_2.2)], gt⟩) (fun b3_2 h => ?_) (fun hk_refine_frame_seen_k2 => ?_)
    ·as_aux_lemma =>
      unfold refine_frame_seen_k2 at h
      refine AW.ops ?_
      obtain ⟨c8, h⟩ := ck_some.1 h
      refine zA [(1, .bp 1 0), (2, .bp 2 0), (4, .own 11), (5, .own 51), (6, .int .i64 (st1.2.2 + 1))] [(1, .box 71 (.int .i64 f.1.1 :: (.sl Y0 f.1.2 :: (cellsX T69 f.2)))), (2, .box 24 [.int .i64 0, .cv (.slice none 0 0)]), (11, .arr 67 (.int .u8) b3_2.1), (51, .arr 66 Y0 b3_2.2)] ?_
      obtain rfl := Option.some.inj h
      exact ⟨_, rfl, zL [] [] []⟩
    ·refine AW.seq ?_
     refine AW.block ?_
     refine zo ?_
     refine zB [(1, .bp 1 0), (2, .bp 2 0), (4, .own 11), (5, .own 51), (6, .int .i64 st1.2.2), (7, .int .i64 1)] [(1, .box 71 (.int .i64 f.1.1 :: (.sl Y0 f.1.2 :: (cellsX T69 f.2)))), (2, .box 24 [.int .i64 0, .cv (.slice none 0 0)]), (11, .arr 67 (.int .u8) st1.1), (51, .arr 66 Y0 st1.2.1)] ?_
     refine AW.block ?_
     obtain ⟨rv13, hw9, ho10⟩ := Option.bind_eq_some_iff.1 h
     refine AW.loopO (refine_frame_seen_b2 f st1) (fun st2 => ⟨fr [(1, .bp 1 0), (2, .bp 2 0), (4, .own 11), (5, .own 51), (6, .int .i64 st1.2.2), (7, .int .i64 st2.2.2)], hpGet [(1, .box 71 (.int .i64 f.1.1 :: (.sl Y0 f.1.2 :: (cellsX T69 f.2)))), (2, .box 24 [.int .i64 0, .cv (.slice none 0 0)]), (11, .arr 67 (.int .u8) st2.1), (51, .arr 66 Y0 st2.2.1)], gt⟩) (st1.1, st1.2.1, 1) hw9 (zL [] [] []) ?_
     as_aux_lemma =>
      intro st2 x12 h hd11
      unfold refine_frame_seen_b2 at h
      refine AW.seq ?_
      refine zo ?_
      refine zB [(1, .bp 1 0), (2, .bp 2 0), (4, .own 11), (5, .own 51), (6, .int .i64 st1.2.2), (7, .int .i64 st2.2.2), (19, .bool (decide (st2.2.2 ≤ 3)))] [(1, .box 71 (.int .i64 f.1.1 :: (.sl Y0 f.1.2 :: (cellsX T69 f.2)))), (2, .box 24 [.int .i64 0, .cv (.slice none 0 0)]), (11, .arr 67 (.int .u8) st2.1), (51, .arr 66 Y0 st2.2.1)] ?_
      refine zQ h (fun hb14 h => ?_) (fun hb14 h => ?_)
      ·refine zk ?_
       refine AW.seq ?_
       refine AW.block ?_
       refine AW.seq ?_
       refine AW.draw tab_ok mixed_ok [] [] (by decide) (by kernel_rfl) ?_
       as_aux_lemma =>
        obtain ⟨c16, h⟩ := ck_some.1 h
        obtain ⟨c17, h⟩ := ck_some.1 h
        refine adops_cut 6 (fun K' hK15 => ?_)
        try dsimp only [List.drop_succ_cons, List.drop_zero, List.take_succ_cons, List.take_zero]
        simp only [go_sem, hb7, hb14]
        repeat with_reducible refine zN ?_
        refine hK15 _ ?_
        as_aux_lemma =>
         obtain ⟨v0_2, hv18, h⟩ := Option.bind_eq_some_iff.1 h
         refine adops.call (by first | trivial | rfl) rfl rfl rfl (fun _ h => h) [] [] (hc_refine_frame_after f (st2.1.getD st1.2.2.toNat 0) st2.2.2 hv18) rfl (by (simp only [go_sem, hb7, hb14]) <;> (with_reducible and_intros) <;> first | assumption | rfl | omega | (unfold maxLen; omega)) (by (simp only [go_sem, hb7, hb14]) <;> (with_reducible and_intros) <;> first | assumption | rfl | omega | (unfold maxLen; omega)) rfl ?_
         refine adops_cut 1 (fun K' hK19 => ?_)
         try dsimp only [List.drop_succ_cons, List.drop_zero, List.take_succ_cons, List.take_zero]
         simp only [go_sem, hb7, hb14]
         repeat with_reducible refine zN ?_
         refine hK19 _ ?_
         refine adops_nil ?_
         refine athen_n ?_
         refine zV [(1, .bp 1 0), (2, .bp 2 0), (4, .own 11), (5, .own 51), (6, .int .i64 st1.2.2), (7, .int .i64 st2.2.2), (8, .int .u8 v0_2)] [(1, .box 71 (.int .i64 f.1.1 :: (.sl Y0 f.1.2 :: (cellsX T69 f.2)))), (2, .box 24 [.int .i64 0, .cv (.slice none 0 0)]), (11, .arr 67 (.int .u8) st2.1), (51, .arr 66 Y0 st2.2.1)] gt ?_
         as_aux_lemma =>
          refine AW.seq ?_
          refine zo ?_
          refine zB [(1, .bp 1 0), (2, .bp 2 0), (4, .own 11), (5, .own 51), (6, .int .i64 st1.2.2), (7, .int .i64 st2.2.2), (8, .int .u8 v0_2), (30, .bool (decide (v0_2 = 0)))] [(1, .box 71 (.int .i64 f.1.1 :: (.sl Y0 f.1.2 :: (cellsX T69 f.2)))), (2, .box 24 [.int .i64 0, .cv (.slice none 0 0)]), (11, .arr 67 (.int .u8) st2.1), (51, .arr 66 Y0 st2.2.1)] ?_
          refine zQ h (fun hb20 h => ?_) (fun hb20 h => ?_)
          ·refine AW.exit ?_
           refine athen_e ?_
           refine ablock_s ?_
           refine athen_n ?_
           refine AW.ops ?_
           obtain ⟨c21, h⟩ := ck_some.1 h
           refine zA [(1, .bp 1 0), (2, .bp 2 0), (4, .own 11), (5, .own 51), (6, .int .i64 st1.2.2), (7, .int .i64 (st2.2.2 + 1))] [(1, .box 71 (.int .i64 f.1.1 :: (.sl Y0 f.1.2 :: (cellsX T69 f.2)))), (2, .box 24 [.int .i64 0, .cv (.slice none 0 0)]), (11, .arr 67 (.int .u8) st2.1), (51, .arr 66 Y0 st2.2.1)] ?_
           obtain rfl := Option.some.inj h
           exact ⟨_, rfl, zL [] [] []⟩
          ·refine zk ?_
           refine AW.have1 (fun b3 : (List Int) => refine_frame_seen_k3 st1 st2 v0_2 b3 = some x12) (fun b3 => ⟨fr [(1, .bp 1 0), (2, .bp 2 0), (4, .own 38), (5, .own 51), (6, .int .i64 st1.2.2), (7, .int .i64 st2.2.2), (8, .int .u8 v0_2)], hpGet [(1, .box 71 (.int .i64 f.1.1 :: (.sl Y0 f.1.2 :: (cellsX T69 f.2)))), (2, .box 24 [.int .i64 0, .cv (.slice none 0 0)]), (38, .arr 67 (.int .u8) b3), (51, .arr 66 Y0 st2.2.1)], gt⟩) (fun b3 h => ?_) (fun hk_refine_frame_seen_k3 => ?_)
           ·as_aux_lemma =>
             unfold refine_frame_seen_k3 at h
             refine AW.seq ?_
             refine zo ?_
             refine zB [(1, .bp 1 0), (2, .bp 2 0), (4, .own 38), (5, .own 51), (6, .int .i64 st1.2.2), (7, .int .i64 st2.2.2), (8, .int .u8 v0_2), (41, .bool (decide (6 < (b3.length : Int))))] [(1, .box 71 (.int .i64 f.1.1 :: (.sl Y0 f.1.2 :: (cellsX T69 f.2)))), (2, .box 24 [.int .i64 0, .cv (.slice none 0 0)]), (38, .arr 67 (.int .u8) b3), (51, .arr 66 Y0 st2.2.1)] ?_
             refine zQ h (fun hb22 h => ?_) (fun hb22 h => ?_)
             ·refine zo ?_
              refine zB [(2, .bp 2 0), (3, .bool false)] [(2, .box 24 [.int .i64 0, .cv (.slice none 0 0)])] ?_
              refine zr ?_
              refine ablock_r ?_
              refine athen_r ?_
              obtain rfl := Option.some.inj h
              rw [← hd11 _ rfl] at ho10
              have h := ho10
              try simp only at h
              refine athen_r ?_
              refine ablock_r ?_
              refine ablock_r ?_
              refine athen_r ?_
              obtain rfl := Option.some.inj h
              rw [← hd4 _ rfl] at ho3
              have h := ho3
              try simp only at h
              refine athen_r ?_
              refine ablock_r ?_
              refine athen_r ?_
              obtain rfl := Option.some.inj h
              exact zR [] [2000] []
             ·refine zk ?_
              refine AW.ops ?_
              refine zS 5 [(1, .bp 1 0), (2, .bp 2 0), (4, .own 38), (6, .int .i64 st1.2.2), (7, .int .i64 st2.2.2), (43, .own 51), (44, .int .i64 st1.2.2), (45, .int .i64 st2.2.2), (46, .own 38), (47, .int .u8 v0_2)] [(1, .box 71 (.int .i64 f.1.1 :: (.sl Y0 f.1.2 :: (cellsX T69 f.2)))), (2, .box 24 [.int .i64 0, .cv (.slice none 0 0)]), (38, .arr 67 (.int .u8) b3), (51, .arr 66 Y0 st2.2.1)] ?_
              obtain ⟨v0_4, hv23, h⟩ := Option.bind_eq_some_iff.1 h
              refine zC [38] [] (hc_slices_Index_2 b3 v0_2 hv23) [(1, .bp 1 0), (2, .bp 2 0), (4, .own 38), (6, .int .i64 st1.2.2), (7, .int .i64 st2.2.2), (43, .own 51), (44, .int .i64 st1.2.2), (45, .int .i64 st2.2.2), (48, .int .i64 v0_4)] [(1, .box 71 (.int .i64 f.1.1 :: (.sl Y0 f.1.2 :: (cellsX T69 f.2)))), (2, .box 24 [.int .i64 0, .cv (.slice none 0 0)]), (38, .arr 67 (.int .u8) b3), (51, .arr 66 Y0 st2.2.1)] ?_
              obtain ⟨c24, h⟩ := ck_some.1 h
              refine zA [(1, .bp 1 0), (2, .bp 2 0), (4, .own 38), (5, .own 51), (6, .int .i64 st1.2.2), (7, .int .i64 st2.2.2)] [(1, .box 71 (.int .i64 f.1.1 :: (.sl Y0 f.1.2 :: (cellsX T69 f.2)))), (2, .box 24 [.int .i64 0, .cv (.slice none 0 0)]), (38, .arr 67 (.int .u8) b3), (51, .arr 66 Y0 (st2.2.1 ++ [(st1.2.2, st2.2.2, v0_4)]))] ?_
              refine ablock_n ?_
              refine athen_n ?_
              refine AW.ops ?_
              obtain ⟨c25, h⟩ := ck_some.1 h
              refine zA [(1, .bp 1 0), (2, .bp 2 0), (4, .own 38), (5, .own 51), (6, .int .i64 st1.2.2), (7, .int .i64 (st2.2.2 + 1))] [(1, .box 71 (.int .i64 f.1.1 :: (.sl Y0 f.1.2 :: (cellsX T69 f.2)))), (2, .box 24 [.int .i64 0, .cv (.slice none 0 0)]), (38, .arr 67 (.int .u8) b3), (51, .arr 66 Y0 (st2.2.1 ++ [(st1.2.2, st2.2.2, v0_4)]))] ?_
              obtain rfl := Option.some.inj h
              exact ⟨_, rfl, zL [] [] [(11, 38)]⟩
           ·refine AW.seq ?_
            refine zo ?_
            refine zS 2 [(1, .bp 1 0), (2, .bp 2 0), (4, .own 11), (5, .own 51), (6, .int .i64 st1.2.2), (7, .int .i64 st2.2.2), (8, .int .u8 v0_2), (31, .own 11), (32, .int .u8 v0_2)] [(1, .box 71 (.int .i64 f.1.1 :: (.sl Y0 f.1.2 :: (cellsX T69 f.2)))), (2, .box 24 [.int .i64 0, .cv (.slice none 0 0)]), (11, .arr 67 (.int .u8) st2.1), (51, .arr 66 Y0 st2.2.1)] ?_
            obtain ⟨v0_3, hv26, h⟩ := Option.bind_eq_some_iff.1 h
            refine zC [11] [] (hc_slices_Contains_2 st2.1 v0_2 hv26) [(1, .bp 1 0), (2, .bp 2 0), (4, .own 11), (5, .own 51), (6, .int .i64 st1.2.2), (7, .int .i64 st2.2.2), (8, .int .u8 v0_2), (33, .bool v0_3)] [(1, .box 71 (.int .i64 f.1.1 :: (.sl Y0 f.1.2 :: (cellsX T69 f.2)))), (2, .box 24 [.int .i64 0, .cv (.slice none 0 0)]), (11, .arr 67 (.int .u8) st2.1), (51, .arr 66 Y0 st2.2.1)] ?_
            refine zB [(1, .bp 1 0), (2, .bp 2 0), (4, .own 11), (5, .own 51), (6, .int .i64 st1.2.2), (7, .int .i64 st2.2.2), (8, .int .u8 v0_2), (34, .bool (!v0_3))] [(1, .box 71 (.int .i64 f.1.1 :: (.sl Y0 f.1.2 :: (cellsX T69 f.2)))), (2, .box 24 [.int .i64 0, .cv (.slice none 0 0)]), (11, .arr 67 (.int .u8) st2.1), (51, .arr 66 Y0 st2.2.1)] ?_
            refine zQ h (fun hb27 h => ?_) (fun hb27 h => ?_)
            ·refine AW.ops ?_
             obtain ⟨c28, h⟩ := ck_some.1 h
             refine zB [(1, .bp 1 0), (2, .bp 2 0), (4, .own 38), (5, .own 51), (6, .int .i64 st1.2.2), (7, .int .i64 st2.2.2), (8, .int .u8 v0_2)] [(1, .box 71 (.int .i64 f.1.1 :: (.sl Y0 f.1.2 :: (cellsX T69 f.2)))), (2, .box 24 [.int .i64 0, .cv (.slice none 0 0)]), (38, .arr 67 (.int .u8) (st2.1 ++ [v0_2])), (51, .arr 66 Y0 st2.2.1)] ?_
             exact AW.weaken (zL [] [] []) (hk_refine_frame_seen_k3 _ h)
            ·refine zk ?_
             exact AW.weaken (zL [] [] [(38, 11)]) (hk_refine_frame_seen_k3 _ h)
      ·refine AW.exit ?_
       refine athen_e ?_
       obtain rfl := Option.some.inj h
       rw [← hd11 _ rfl] at ho10
       have h := ho10
       try simp only at h
       refine athen_e ?_
       refine ablock_s ?_
       refine ablock_n ?_
       refine athen_n ?_
       exact AW.weaken (zL [] [] []) (hk_refine_frame_seen_k2 _ h)
   ·refine AW.exit ?_
    refine athen_e ?_
    obtain rfl := Option.some.inj h
    rw [← hd4 _ rfl] at ho3
    have h := ho3
    try simp only at h
    refine athen_e ?_
    refine ablock_s ?_
    refine athen_n ?_
    exact AW.weaken (zL [] [] []) (hk_refine_frame_seen_k1 _ h)

theorem hc_refine_Seen (s : Int × (List (Int × Int × Int))) {r : Int × (List (Int × Int × Int)) × Int} (h : refine_Seen s = some r) : HC Try.prog 45 [] [.agg [.int .i64 s.1, .sl Y0 s.2]] [(2000, .arr 66 Y0 r.2.1)] (.tup [.agg [.int .i64 r.1, .own 2000], .int .i64 r.2.2]) := by
 unfold refine_Seen at h
 refine zH Try.func45 [.cell 2 24, .tmp 3] 26 ?_
 refine zo ?_
 refine zB [(1, .bp 1 0), (2, .bp 2 0)] [(1, .box 24 [.int .i64 s.1, .sl Y0 s.2]), (2, .box 24 [.int .i64 0, .cv (.slice none 0 0)])] ?_
 refine zo ?_
 refine zS 1 [(2, .bp 2 0), (9, .agg [.int .i64 s.1, .sl Y0 s.2])] [(2, .box 24 [.int .i64 0, .cv (.slice none 0 0)])] ?_
 obtain ⟨v0, hv1, h⟩ := Option.bind_eq_some_iff.1 h
 refine zC [] [] (hc_refine_frameOf s hv1) [(2, .bp 2 0), (10, .tup [.agg (.int .i64 v0.1 :: (.sl Y0 v0.2.1 :: (cellsX T69 v0.2.2.1))), .int .i64 v0.2.2.2])] [(2, .box 24 [.int .i64 0, .cv (.slice none 0 0)])] ?_
 refine zS 5 [(2, .bp 2 0), (4, .bp 4 0), (12, .int .i64 v0.2.2.2)] [(2, .box 24 [.int .i64 0, .cv (.slice none 0 0)]), (4, .box 71 (.int .i64 v0.1 :: (.sl Y0 v0.2.1 :: (cellsX T69 v0.2.2.1))))] ?_
 refine zB [(2, .bp 2 0), (4, .bp 4 0), (5, .int .i64 v0.2.2.2)] [(2, .box 24 [.int .i64 0, .cv (.slice none 0 0)]), (4, .box 71 (.int .i64 v0.1 :: (.sl Y0 v0.2.1 :: (cellsX T69 v0.2.2.1))))] ?_
 refine AW.seq ?_
 refine zo ?_
 refine zB [(2, .bp 2 0), (4, .bp 4 0), (5, .int .i64 v0.2.2.2), (14, .bool (!(decide (v0.2.2.2 = 0))))] [(2, .box 24 [.int .i64 0, .cv (.slice none 0 0)]), (4, .box 71 (.int .i64 v0.1 :: (.sl Y0 v0.2.1 :: (cellsX T69 v0.2.2.1))))] ?_
 refine zQ h (fun hb2 h => ?_) (fun hb2 h => ?_)
 ·refine zo ?_
  refine zB [(2, .bp 2 0), (3, .int .i64 v0.2.2.2)] [(2, .box 24 [.int .i64 0, .cv (.slice none 0 0)])] ?_
  refine zr ?_
  obtain rfl := Option.some.inj h
  exact zR [] [2000] []
 ·refine zk ?_
  refine zo ?_
  refine zS 1 [(2, .bp 2 0), (18, .agg (.int .i64 v0.1 :: (.sl Y0 v0.2.1 :: (cellsX T69 v0.2.2.1))))] [(2, .box 24 [.int .i64 0, .cv (.slice none 0 0)])] ?_
  obtain ⟨v0_2, hv3, h⟩ := Option.bind_eq_some_iff.1 h
  refine zC [] [] (hc_refine_frame_seen ((v0.1, v0.2.1), v0.2.2.1) hv3) [(2, .bp 2 0), (19, .tup [.agg [.int .i64 v0_2.1, .own 29000], .bool v0_2.2.2])] [(2, .box 24 [.int .i64 0, .cv (.slice none 0 0)]), (29000, .arr 66 Y0 v0_2.2.1)] ?_
  refine zS 5 [(2, .bp 2 0), (6, .bp 6 0), (21, .bool v0_2.2.2)] [(2, .box 24 [.int .i64 0, .cv (.slice none 0 0)]), (6, .box 24 [.int .i64 v0_2.1, .own 29000]), (29000, .arr 66 Y0 v0_2.2.1)] ?_
  refine zB [(2, .bp 2 0), (6, .bp 6 0), (7, .bool v0_2.2.2)] [(2, .box 24 [.int .i64 0, .cv (.slice none 0 0)]), (6, .box 24 [.int .i64 v0_2.1, .own 29000]), (29000, .arr 66 Y0 v0_2.2.1)] ?_
  refine AW.seq ?_
  refine zo ?_
  refine zB [(2, .bp 2 0), (6, .bp 6 0), (23, .bool (!v0_2.2.2))] [(2, .box 24 [.int .i64 0, .cv (.slice none 0 0)]), (6, .box 24 [.int .i64 v0_2.1, .own 29000]), (29000, .arr 66 Y0 v0_2.2.1)] ?_
  refine zQ h (fun hb4 h => ?_) (fun hb4 h => ?_)
  ·refine zo ?_
   refine zB [(2, .bp 2 0), (3, .int .i64 4)] [(2, .box 24 [.int .i64 0, .cv (.slice none 0 0)])] ?_
   refine zr ?_
   obtain rfl := Option.some.inj h
   exact zR [] [2000] []
  ·refine zk ?_
   refine zo ?_
   refine zB [(2, .bp 2 0), (3, .int .i64 0)] [(2, .box 24 [.int .i64 v0_2.1, .own 29000]), (29000, .arr 66 Y0 v0_2.2.1)] ?_
   refine AW.ret ?_
   obtain rfl := Option.some.inj h
   exact zR [] [] [(2000, 29000)]

theorem hc_cmp_isNaN (x0 : Int) {r : Unit} (h : cmp_isNaN x0 = some r) : HC Try.prog 134 [] [.int .i64 x0] [] (.bool false) := by
 unfold cmp_isNaN at h
 refine zH Try.func134 [.tmp 2] 6 ?_
 refine zo ?_
 refine zB [(0, .int .i64 x0)] [] ?_
 refine zo ?_
 refine zB [(2, .bool false)] [] ?_
 refine AW.ret ?_
 obtain rfl := Option.some.inj h
 exact zR [] [] []

theorem hc_cmp_Compare (x0 : Int) (y : Int) {r : Int} (h : cmp_Compare x0 y = some r) : HC Try.prog 130 [] [.int .i64 x0, .int .i64 y] [] (.int .i64 r) := by
 unfold cmp_Compare at h
 refine zH Try.func130 [.tmp 4] 20 ?_
 refine zo ?_
 refine zB [(0, .int .i64 x0), (1, .int .i64 y)] [] ?_
 refine zo ?_
 refine zS 1 [(0, .int .i64 x0), (1, .int .i64 y), (7, .int .i64 x0)] [] ?_
 obtain ⟨v0, hv1, h⟩ := Option.bind_eq_some_iff.1 h
 refine zC [] [] (hc_cmp_isNaN x0 hv1) [(0, .int .i64 x0), (1, .int .i64 y), (8, .bool false)] [] ?_
 refine zB [(0, .int .i64 x0), (1, .int .i64 y), (5, .bool false)] [] ?_
 refine zo ?_
 refine zS 1 [(0, .int .i64 x0), (1, .int .i64 y), (5, .bool false), (9, .int .i64 y)] [] ?_
 obtain ⟨v0_2, hv2, h⟩ := Option.bind_eq_some_iff.1 h
 refine zC [] [] (hc_cmp_isNaN y hv2) [(0, .int .i64 x0), (1, .int .i64 y), (5, .bool false), (10, .bool false)] [] ?_
 refine zB [(0, .int .i64 x0), (1, .int .i64 y), (5, .bool false), (6, .bool false)] [] ?_
 refine AW.seq ?_
 refine zo ?_
 refine zB [(0, .int .i64 x0), (1, .int .i64 y), (6, .bool false), (11, .bool false)] [] ?_
 refine AW.cond (b := false) rfl (fun hb3 => by cases hb3) (fun _ => ?_)
 refine zk ?_
 refine AW.seq ?_
 refine zo ?_
 refine zB [(0, .int .i64 x0), (1, .int .i64 y), (13, .bool false)] [] ?_
 refine AW.cond (b := false) rfl (fun hb4 => by cases hb4) (fun _ => ?_)
 refine zk ?_
 refine AW.seq ?_
 refine zo ?_
 refine zB [(0, .int .i64 x0), (1, .int .i64 y), (16, .bool (decide (x0 < y)))] [] ?_
 refine zQ h (fun hb5 h => ?_) (fun hb5 h => ?_)
 ·refine zo ?_
  refine zB [(4, .int .i64 (-1))] [] ?_
  refine zr ?_
  obtain rfl := Option.some.inj h
  exact zR [] [] []
 ·refine zk ?_
  refine AW.seq ?_
  refine zo ?_
  refine zB [(19, .bool (decide (y < x0)))] [] ?_
  refine zQ h (fun hb6 h => ?_) (fun hb6 h => ?_)
  ·refine zo ?_
   refine zB [(4, .int .i64 1)] [] ?_
   refine zr ?_
   obtain rfl := Option.some.inj h
   exact zR [] [] []
  ·refine zk ?_
   refine zo ?_
   refine zB [(4, .int .i64 0)] [] ?_
   refine AW.ret ?_
   obtain rfl := Option.some.inj h
   exact zR [] [] []

end Go.Proofs.Ytifleoceebaooaa
