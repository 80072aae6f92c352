/-
  Made by wip/tool/dc.py out of the print of the program: contracts.
-/
import Derived.Test.YtabchabbdnhjpaaVp
import Derived.Test.YtabchabbdnhjpaaSh6
import Derived.Test.YtabchabbdnhjpaaAvd
import Derived.Test.YtabchabbdnhjpaaVuc1
namespace Go.Proofs.Ytabchabbdnhjpaa
open Go.RowKit

set_option linter.unusedSimpArgs false
set_option linter.unusedVariables false
set_option linter.constructorNameAsVariable false

set_option maxRecDepth 100000
set_option maxHeartbeats 2000000

theorem hc_slices_Grow (n : Int) {r : Unit} (h : slices_Grow n = some r) : HC Try.prog 68 [] [.cv (.slice none 0 0), .int .i64 n] [(2000, .arr 3 (.int .i64) [])] (.own 2000) := by
 unfold slices_Grow at h
 refine zH Try.func68 [.tmp 4] 27 ?_
 refine zo ?_
 refine zB [(0, .cv (.slice none 0 0)), (1, .int .i64 n)] [] ?_
 refine AW.seq ?_
 refine zo ?_
 refine zB [(0, .cv (.slice none 0 0)), (1, .int .i64 n), (6, .bool (decide (n < 0)))] [] ?_
 refine zQ h (fun hb1 h => ?_) (fun hb1 h => ?_)
 ·refine AW.ops ?_
  cases h
 ·refine zk ?_
  refine AW.seq ?_
  refine zo ?_
  refine zS 2 [(0, .cv (.slice none 0 0)), (8, .int .i64 n), (9, .cv (.slice none 0 0))] [] ?_
  refine AO.capNil tab_ok (by decide) rfl rfl rfl rfl rfl tab_25 rfl rfl ?_
  refine zT [(0, .cv (.slice none 0 0)), (8, .int .i64 n), (10, .int .i64 0)] [] gt ?_
  obtain ⟨c2, h⟩ := ck_some.1 h
  obtain ⟨c3, h⟩ := ck_some.1 h
  refine zB [(0, .cv (.slice none 0 0)), (1, .int .i64 (n - (0 - 0)))] [] ?_
  refine zo ?_
  refine zB [(0, .cv (.slice none 0 0)), (1, .int .i64 (n - (0 - 0))), (16, .bool (decide (0 < (n - (0 - 0)))))] [] ?_
  refine zQ h (fun hb4 h => ?_) (fun hb4 h => ?_)
  ·refine AW.ops ?_
   refine zS 2 [(0, .cv (.slice none 0 0)), (1, .int .i64 (n - (0 - 0))), (17, .cv (.slice none 0 0)), (18, .cv (.slice none 0 0))] [] ?_
   refine AO.capNil tab_ok (by decide) rfl rfl rfl rfl rfl tab_25 rfl rfl ?_
   refine zT [(0, .cv (.slice none 0 0)), (1, .int .i64 (n - (0 - 0))), (17, .cv (.slice none 0 0)), (19, .int .i64 0)] [] gt ?_
   refine AO.sliceNil tab_ok (by decide) rfl rfl tab_25 rfl tab_3 rfl rfl ?_
   refine zT [(0, .cv (.slice none 0 0)), (1, .int .i64 (n - (0 - 0))), (20, .cv (.slice none 0 0))] [] gt ?_
   refine zS 1 [(0, .cv (.slice none 0 0)), (20, .cv (.slice none 0 0)), (21, .int .i64 (n - (0 - 0)))] [] ?_
   obtain ⟨c5, h⟩ := ck_some.1 h
   obtain ⟨c6, h⟩ := ck_some.1 h
   obtain ⟨c7, h⟩ := ck_some.1 h
   refine AO.appendZeros tab_ok (by decide) (by decide) rfl rfl rfl rfl rfl tab_25 rfl tab_3 rfl tab_3 rfl rfl rfl (by first | assumption | omega | (simp only [go_sem, hb1, hb4]) <;> (with_reducible and_intros) <;> first | assumption | rfl | omega | (unfold maxLen; omega)) (by first | assumption | omega | (simp only [go_sem, hb1, hb4]) <;> (with_reducible and_intros) <;> first | assumption | rfl | omega | (unfold maxLen; omega)) (by first | assumption | omega | (simp only [go_sem, hb1, hb4]) <;> (with_reducible and_intros) <;> first | assumption | rfl | omega | (unfold maxLen; omega)) ?_
   refine zT [(0, .cv (.slice none 0 0)), (22, .own 22)] [(22, .arr 3 (.int .i64) (List.replicate (n - (0 - 0)).toNat (0 : Int)))] gt ?_
   refine zS 2 [(22, .own 22), (24, .int .i64 0)] [(22, .arr 3 (.int .i64) (List.replicate (n - (0 - 0)).toNat (0 : Int)))] ?_
   obtain ⟨c8, h⟩ := ck_some.1 h
   obtain ⟨c9, h⟩ := ck_some.1 h
   refine AO.sliceOwn tab_ok (by decide) (by decide) rfl rfl tab_25 rfl tab_3 rfl rfl rfl rfl (by first | assumption | omega | (simp only [go_sem, hb1, hb4]) <;> (with_reducible and_intros) <;> first | assumption | rfl | omega | (unfold maxLen; omega)) (by first | assumption | omega | (simp only [go_sem, hb1, hb4]) <;> (with_reducible and_intros) <;> first | assumption | rfl | omega | (unfold maxLen; omega)) ?_
   refine zT [(25, .own 25)] [(25, .arr 3 (.int .i64) [])] gt ?_
   refine zB [(0, .own 25)] [(25, .arr 3 (.int .i64) [])] ?_
   refine zo ?_
   refine zB [(4, .own 25)] [(25, .arr 3 (.int .i64) [])] ?_
   refine AW.ret ?_
   obtain rfl := Option.some.inj h
   exact zR [] [] [(2000, 25)]
  ·refine zk ?_
   refine zo ?_
   refine zB [(4, .cv (.slice none 0 0))] [] ?_
   refine AW.ret ?_
   obtain rfl := Option.some.inj h
   exact zR [] [2000] []

theorem hc_slices_Concat (slices : List (List Int)) {r : (List Int)} (h : slices_Concat slices = some r) : HC Try.prog 55 [] [.sl (.sl (.int .i64)) slices] [(2000, .arr 3 (.int .i64) r)] (.own 2000) := by
 unfold slices_Concat at h
 refine zH Try.func55 [.tmp 2] 36 ?_
 refine zo ?_
 refine zB [(0, .sl (.sl (.int .i64)) slices)] [] ?_
 refine zo ?_
 refine zB [(0, .sl (.sl (.int .i64)) slices), (3, .int .i64 0)] [] ?_
 refine AW.have1 (fun b1 : Int => slices_Concat_k1 slices b1 = some r) (fun b1 => ⟨fr [(0, .sl (.sl (.int .i64)) slices), (3, .int .i64 b1)], hpGet [], gt⟩) (fun b1 h => ?_) (fun hk_slices_Concat_k1 => ?_)
 ·as_aux_lemma =>
   unfold slices_Concat_k1 at h
   refine zo ?_
   refine zS 1 [(0, .sl (.sl (.int .i64)) slices), (23, .int .i64 b1)] [] ?_
   obtain ⟨v0, hv1, h⟩ := Option.bind_eq_some_iff.1 h
   refine zC [] [] (hc_slices_Grow b1 hv1) [(0, .sl (.sl (.int .i64)) slices), (24, .own 34000)] [(34000, .arr 3 (.int .i64) [])] ?_
   refine zB [(0, .sl (.sl (.int .i64)) slices), (6, .own 34000)] [(34000, .arr 3 (.int .i64) [])] ?_
   refine AW.have1 (fun b2 : (List Int) => slices_Concat_k2 b2 = some r) (fun b2 => ⟨fr [(6, .own 34000)], hpGet [(34000, .arr 3 (.int .i64) b2)], gt⟩) (fun b2 h => ?_) (fun hk_slices_Concat_k2 => ?_)
   ·as_aux_lemma =>
     unfold slices_Concat_k2 at h
     refine zo ?_
     refine zB [(2, .own 34000)] [(34000, .arr 3 (.int .i64) b2)] ?_
     refine AW.ret ?_
     obtain rfl := Option.some.inj h
     exact zR [] [] [(2000, 34000)]
   ·refine AW.seq ?_
    refine zo ?_
    refine zB [(6, .own 34000), (25, .sl (.sl (.int .i64)) slices), (26, .int .i64 (slices.length : Int)), (27, .int .i64 0)] [(34000, .arr 3 (.int .i64) [])] ?_
    refine AW.block ?_
    obtain ⟨rv6, hw2, ho3⟩ := Option.bind_eq_some_iff.1 h
    refine AW.loopO (slices_Concat_b2 slices) (fun st2 => ⟨fr [(6, .own 34000), (25, .sl (.sl (.int .i64)) slices), (26, .int .i64 (slices.length : Int)), (27, .int .i64 st2.2)], hpGet [(34000, .arr 3 (.int .i64) st2.1)], gt⟩) ([], 0) hw2 (zL [] [] []) ?_
    as_aux_lemma =>
     intro st2 x5 h hd4
     unfold slices_Concat_b2 at h
     refine zo ?_
     refine zB [(6, .own 34000), (25, .sl (.sl (.int .i64)) slices), (26, .int .i64 (slices.length : Int)), (27, .int .i64 st2.2), (28, .bool (decide (st2.2 < (slices.length : Int))))] [(34000, .arr 3 (.int .i64) st2.1)] ?_
     refine AW.seq ?_
     refine zQ h (fun hb7 h => ?_) (fun hb7 h => ?_)
     ·refine zk ?_
      refine AW.seq ?_
      refine AW.block ?_
      refine zo ?_
      obtain ⟨c8, h⟩ := ck_some.1 h
      obtain ⟨c9, h⟩ := ck_some.1 h
      refine zB [(6, .own 34000), (8, .sl (.int .i64) (slices.getD st2.2.toNat [])), (25, .sl (.sl (.int .i64)) slices), (26, .int .i64 (slices.length : Int)), (27, .int .i64 st2.2)] [(34000, .arr 3 (.int .i64) st2.1)] ?_
      refine AW.ops ?_
      obtain ⟨c10, h⟩ := ck_some.1 h
      refine zA [(6, .own 33), (25, .sl (.sl (.int .i64)) slices), (26, .int .i64 (slices.length : Int)), (27, .int .i64 st2.2)] [(33, .arr 3 (.int .i64) (st2.1 ++ (slices.getD st2.2.toNat [])))] ?_
      refine ablock_n ?_
      refine athen_n ?_
      refine AW.ops ?_
      obtain ⟨c11, h⟩ := ck_some.1 h
      refine zA [(6, .own 33), (25, .sl (.sl (.int .i64)) slices), (26, .int .i64 (slices.length : Int)), (27, .int .i64 (st2.2 + 1))] [(33, .arr 3 (.int .i64) (st2.1 ++ (slices.getD st2.2.toNat [])))] ?_
      obtain rfl := Option.some.inj h
      exact ⟨_, rfl, zL [] [] [(34000, 33)]⟩
     ·refine AW.exit ?_
      refine athen_e ?_
      obtain rfl := Option.some.inj h
      rw [← hd4 _ rfl] at ho3
      have h := ho3
      refine athen_e ?_
      refine ablock_s ?_
      refine athen_n ?_
      exact AW.weaken (zL [] [] []) (hk_slices_Concat_k2 _ h)
 ·refine AW.seq ?_
  refine zo ?_
  refine zB [(0, .sl (.sl (.int .i64)) slices), (3, .int .i64 0), (9, .sl (.sl (.int .i64)) slices), (10, .int .i64 (slices.length : Int)), (11, .int .i64 0)] [] ?_
  refine AW.block ?_
  obtain ⟨rv16, hw12, ho13⟩ := Option.bind_eq_some_iff.1 h
  refine AW.loopO (slices_Concat_b1 slices) (fun st1 => ⟨fr [(0, .sl (.sl (.int .i64)) slices), (3, .int .i64 st1.1), (9, .sl (.sl (.int .i64)) slices), (10, .int .i64 (slices.length : Int)), (11, .int .i64 st1.2)], hpGet [], gt⟩) (0, 0) hw12 (zL [] [] []) ?_
  as_aux_lemma =>
   intro st1 x15 h hd14
   unfold slices_Concat_b1 at h
   refine zo ?_
   refine zB [(0, .sl (.sl (.int .i64)) slices), (3, .int .i64 st1.1), (9, .sl (.sl (.int .i64)) slices), (10, .int .i64 (slices.length : Int)), (11, .int .i64 st1.2), (12, .bool (decide (st1.2 < (slices.length : Int))))] [] ?_
   refine AW.seq ?_
   refine zQ h (fun hb17 h => ?_) (fun hb17 h => ?_)
   ·refine zk ?_
    refine AW.seq ?_
    refine AW.block ?_
    refine zo ?_
    obtain ⟨c18, h⟩ := ck_some.1 h
    obtain ⟨c19, h⟩ := ck_some.1 h
    refine zB [(0, .sl (.sl (.int .i64)) slices), (3, .int .i64 st1.1), (5, .sl (.int .i64) (slices.getD st1.2.toNat [])), (9, .sl (.sl (.int .i64)) slices), (10, .int .i64 (slices.length : Int)), (11, .int .i64 st1.2)] [] ?_
    refine zo ?_
    obtain ⟨c20, h⟩ := ck_some.1 h
    refine zB [(0, .sl (.sl (.int .i64)) slices), (3, .int .i64 (st1.1 + ((slices.getD st1.2.toNat []).length : Int))), (9, .sl (.sl (.int .i64)) slices), (10, .int .i64 (slices.length : Int)), (11, .int .i64 st1.2)] [] ?_
    refine zo ?_
    refine zB [(0, .sl (.sl (.int .i64)) slices), (3, .int .i64 (st1.1 + ((slices.getD st1.2.toNat []).length : Int))), (9, .sl (.sl (.int .i64)) slices), (10, .int .i64 (slices.length : Int)), (11, .int .i64 st1.2), (20, .bool (decide ((st1.1 + ((slices.getD st1.2.toNat []).length : Int)) < 0)))] [] ?_
    refine zQ h (fun hb21 h => ?_) (fun hb21 h => ?_)
    ·refine AW.ops ?_
     cases h
    ·refine zm ?_
     refine athen_n ?_
     refine AW.ops ?_
     obtain ⟨c22, h⟩ := ck_some.1 h
     refine zA [(0, .sl (.sl (.int .i64)) slices), (3, .int .i64 (st1.1 + ((slices.getD st1.2.toNat []).length : Int))), (9, .sl (.sl (.int .i64)) slices), (10, .int .i64 (slices.length : Int)), (11, .int .i64 (st1.2 + 1))] [] ?_
     obtain rfl := Option.some.inj h
     exact ⟨_, rfl, zL [] [] []⟩
   ·refine AW.exit ?_
    refine athen_e ?_
    obtain rfl := Option.some.inj h
    rw [← hd14 _ rfl] at ho13
    have h := ho13
    refine athen_e ?_
    refine ablock_s ?_
    refine athen_n ?_
    exact AW.weaken (zL [] [] []) (hk_slices_Concat_k1 _ h)

theorem hc_weave_ties_without (t : (El T53)) (w : List Int) (letter : Int) {r : (List Int) × Bool} (h : weave_ties_without t w letter = some r) : HC Try.prog 63 [] [.agg (cellsX T53 t), .sl (.int .i64) w, .int .i64 letter] [(2000, .arr 3 (.int .i64) r.1)] (.tup [.own 2000, .bool r.2]) := by
 unfold weave_ties_without at h
 refine zH Try.func63 [.tmp 6, .tmp 7] 31 ?_
 refine zo ?_
 refine zB [(1, .sl (.int .i64) w), (2, .int .i64 letter), (3, .bp 3 0)] [(3, .box 53 (cellsX T53 t))] ?_
 refine zo ?_
 refine zS 2 [(1, .sl (.int .i64) w), (2, .int .i64 letter), (3, .bp 3 0), (9, .sl (.int .i64) w), (10, .int .i64 letter)] [(3, .box 53 (cellsX T53 t))] ?_
 obtain ⟨v0, hv1, h⟩ := Option.bind_eq_some_iff.1 h
 refine zC [] [] (hc_slices_Index w letter hv1) [(1, .sl (.int .i64) w), (2, .int .i64 letter), (3, .bp 3 0), (11, .int .i64 v0)] [(3, .box 53 (cellsX T53 t))] ?_
 refine zB [(1, .sl (.int .i64) w), (2, .int .i64 letter), (3, .bp 3 0), (8, .int .i64 v0)] [(3, .box 53 (cellsX T53 t))] ?_
 refine AW.seq ?_
 refine AW.seq ?_
 refine AW.draw tab_ok mixed_ok [] [] (by decide) (lex_fast (by kernel_rfl)) ?_
 as_aux_lemma =>
  refine adops_cut 3 (fun K' hK2 => ?_)
  try dsimp only [List.drop_succ_cons, List.drop_zero, List.take_succ_cons, List.take_zero]
  simp only [go_sem]
  repeat with_reducible refine zN ?_
  refine hK2 _ ?_
  as_aux_lemma =>
   rcases zI h with ⟨hb3, h⟩ | ⟨hb3, h⟩
   ·simp only [hb3]
    as_aux_lemma =>
     refine adops_cut 4 (fun K' hK4 => ?_)
     try dsimp only [List.drop_succ_cons, List.drop_zero, List.take_succ_cons, List.take_zero]
     simp only [go_sem, hb3]
     repeat with_reducible refine zN ?_
     refine hK4 _ ?_
     as_aux_lemma =>
      refine adops_cut 3 (fun K' hK5 => ?_)
      try dsimp only [List.drop_succ_cons, List.drop_zero, List.take_succ_cons, List.take_zero]
      simp only [go_sem, hb3]
      repeat with_reducible refine zN ?_
      refine hK5 _ ?_
      refine adops_nil ?_
      refine athen_n ?_
      refine zV [(1, .sl (.int .i64) w), (8, .int .i64 v0), (21, .bool true)] [] gt ?_
      as_aux_lemma =>
       refine AW.cond (b := true) rfl (fun _ => ?_) (fun hb6 => by cases hb6)
       refine zo ?_
       refine zB [(6, .cv (.slice none 0 0)), (7, .bool false)] [] ?_
       refine zr ?_
       obtain rfl := Option.some.inj h
       exact zR [] [2000] []
   ·simp only [hb3]
    as_aux_lemma =>
     obtain ⟨c8, h⟩ := ck_some.1 h
     obtain ⟨c9, h⟩ := ck_some.1 h
     refine adops_cut 5 (fun K' hK7 => ?_)
     try dsimp only [List.drop_succ_cons, List.drop_zero, List.take_succ_cons, List.take_zero]
     simp only [go_sem, hb3]
     repeat with_reducible refine zN ?_
     refine hK7 _ ?_
     as_aux_lemma =>
      obtain ⟨v0_2, hv10, h⟩ := Option.bind_eq_some_iff.1 h
      refine adops.call (by first | trivial | rfl) rfl rfl rfl (fun _ h => ⟨fun _ => h, fun hn => absurd rfl hn⟩) [] [] (hc_weave_ties_onAny t letter (w.take v0.toNat) hv10) rfl (by (simp only [go_sem, hb3]) <;> (with_reducible and_intros) <;> first | assumption | rfl | omega | (unfold maxLen; omega)) (by (simp only [go_sem, hb3]) <;> (with_reducible and_intros) <;> first | assumption | rfl | omega | (unfold maxLen; omega)) rfl ?_
      refine adops_cut 1 (fun K' hK11 => ?_)
      try dsimp only [List.drop_succ_cons, List.drop_zero, List.take_succ_cons, List.take_zero]
      simp only [go_sem, hb3]
      repeat with_reducible refine zN ?_
      refine hK11 _ ?_
      refine adops_nil ?_
      refine athen_n ?_
      refine zV [(1, .sl (.int .i64) w), (8, .int .i64 v0), (21, .bool v0_2)] [] gt ?_
      as_aux_lemma =>
       refine zQ h (fun hb12 h => ?_) (fun hb12 h => ?_)
       ·refine zo ?_
        refine zB [(6, .cv (.slice none 0 0)), (7, .bool false)] [] ?_
        refine zr ?_
        obtain rfl := Option.some.inj h
        exact zR [] [2000] []
       ·refine zk ?_
        refine AW.seq ?_
        refine AW.draw tab_ok mixed_ok [(7, [29]), (8, [40000])] [] (by decide) (lex_fast (by kernel_rfl)) ?_
        as_aux_lemma =>
         obtain ⟨c14, h⟩ := ck_some.1 h
         obtain ⟨c15, h⟩ := ck_some.1 h
         obtain ⟨c16, h⟩ := ck_some.1 h
         refine adops_cut 6 (fun K' hK13 => ?_)
         try dsimp only [List.drop_succ_cons, List.drop_zero, List.take_succ_cons, List.take_zero]
         simp only [go_sem, hb3, hb12]
         repeat with_reducible refine zN ?_
         refine hK13 _ ?_
         as_aux_lemma =>
          obtain ⟨c18, h⟩ := ck_some.1 h
          obtain ⟨c19, h⟩ := ck_some.1 h
          refine adops_cut 2 (fun K' hK17 => ?_)
          try dsimp only [List.drop_succ_cons, List.drop_zero, List.take_succ_cons, List.take_zero]
          simp only [go_sem, hb3, hb12]
          repeat with_reducible refine zN ?_
          refine hK17 _ ?_
          as_aux_lemma =>
           obtain ⟨v0_3, hv20, h⟩ := Option.bind_eq_some_iff.1 h
           refine adops.call (by first | trivial | rfl) rfl rfl rfl (fun _ h => h) [29] [] (hc_slices_Concat [(w.take v0.toNat), (w.drop (v0 + 1).toNat)] hv20) rfl (by (simp only [go_sem, hb3, hb12]) <;> (with_reducible and_intros) <;> first | assumption | rfl | omega | (unfold maxLen; omega)) (by (simp only [go_sem, hb3, hb12]) <;> (with_reducible and_intros) <;> first | assumption | rfl | omega | (unfold maxLen; omega)) rfl ?_
           refine adops_cut 2 (fun K' hK21 => ?_)
           try dsimp only [List.drop_succ_cons, List.drop_zero, List.take_succ_cons, List.take_zero]
           simp only [go_sem, hb3, hb12]
           repeat with_reducible refine zN ?_
           refine hK21 _ ?_
           refine adops_nil ?_
           refine athen_n ?_
           refine zV [(6, .own 40000), (7, .bool true)] [(40000, .arr 3 (.int .i64) v0_3)] gt ?_
           as_aux_lemma =>
            refine AW.ret ?_
            obtain rfl := Option.some.inj h
            exact zR [] [] [(2000, 40000)]

theorem ic_weave_ties_starts_1 {S R : Type} (a1 : (El T53)) (a2 : List Int) (yl : Int × (List Int) → S → Option (Step S R)) (s0 : S) {r : Sum S R} (h : weave_ties_starts_1 S R a1 a2 yl s0 = some r) : IC Try.prog 62 [(1000, .box 53 (cellsX T53 a1)), (1001, .box 25 [.sl (.int .i64) a2])] [.bp 1000 0, .bp 1001 0] (fun (y : Int × (List Int)) => [.int .i64 y.1, .sl (.int .i64) y.2]) yl s0 r := by
 unfold weave_ties_starts_1 at h
 refine IC.of_body Try.func62 rfl (by kernel_rfl) rfl (nt := 26) rfl (by decide) (by simp) ?_
 intro Γ Γx lp hΓ hΓx hY
 refine zo ?_
 refine zB [(0, .fn (.yield lp) [] []), (1, .bp 1000 0), (2, .bp 1001 0), (7, .int .i64 0)] [(1000, .box 53 (cellsX T53 a1)), (1001, .box 25 [.sl (.int .i64) a2])] ?_
 refine AW.block ?_
 obtain ⟨rv5, hw1, ho2⟩ := Option.bind_eq_some_iff.1 h
 refine AW.loopO (weave_ties_starts_1_b1 S R a1 a2 yl) (fun st1 => ⟨fr [(0, .fn (.yield lp) [] []), (1, .bp 1000 0), (2, .bp 1001 0), (7, .int .i64 st1.1)], hpGet [(1000, .box 53 (cellsX T53 a1)), (1001, .box 25 [.sl (.int .i64) a2])], (Γ st1.2)⟩) (0, s0) hw1 (zL [] [] []) ?_
 as_aux_lemma =>
  intro st1 x4 h hd3
  unfold weave_ties_starts_1_b1 at h
  refine zo ?_
  refine zB [(0, .fn (.yield lp) [] []), (1, .bp 1000 0), (2, .bp 1001 0), (7, .int .i64 st1.1), (8, .bool (decide (st1.1 < 6)))] [(1000, .box 53 (cellsX T53 a1)), (1001, .box 25 [.sl (.int .i64) a2])] ?_
  refine AW.seq ?_
  refine zQ h (fun hb6 h => ?_) (fun hb6 h => ?_)
  ·refine zk ?_
   refine AW.seq ?_
   refine AW.block ?_
   refine zo ?_
   refine zB [(0, .fn (.yield lp) [] []), (1, .bp 1000 0), (2, .bp 1001 0), (4, .int .i64 st1.1), (7, .int .i64 st1.1)] [(1000, .box 53 (cellsX T53 a1)), (1001, .box 25 [.sl (.int .i64) a2])] ?_
   refine zo ?_
   refine zS 3 [(0, .fn (.yield lp) [] []), (1, .bp 1000 0), (2, .bp 1001 0), (4, .int .i64 st1.1), (7, .int .i64 st1.1), (11, .agg (cellsX T53 a1)), (12, .sl (.int .i64) a2), (13, .int .i64 st1.1)] [(1000, .box 53 (cellsX T53 a1)), (1001, .box 25 [.sl (.int .i64) a2])] ?_
   obtain ⟨v0, hv7, h⟩ := Option.bind_eq_some_iff.1 h
   refine zC [] [] (hc_weave_ties_without a1 a2 st1.1 hv7) [(0, .fn (.yield lp) [] []), (1, .bp 1000 0), (2, .bp 1001 0), (4, .int .i64 st1.1), (7, .int .i64 st1.1), (14, .tup [.own 24000, .bool v0.2])] [(1000, .box 53 (cellsX T53 a1)), (1001, .box 25 [.sl (.int .i64) a2]), (24000, .arr 3 (.int .i64) v0.1)] ?_
   refine zB [(0, .fn (.yield lp) [] []), (1, .bp 1000 0), (2, .bp 1001 0), (4, .int .i64 st1.1), (5, .own 24000), (6, .bool v0.2), (7, .int .i64 st1.1)] [(1000, .box 53 (cellsX T53 a1)), (1001, .box 25 [.sl (.int .i64) a2]), (24000, .arr 3 (.int .i64) v0.1)] ?_
   refine zo ?_
   refine zS 2 [(0, .fn (.yield lp) [] []), (1, .bp 1000 0), (2, .bp 1001 0), (4, .int .i64 st1.1), (5, .own 24000), (7, .int .i64 st1.1), (18, .bool v0.2)] [(1000, .box 53 (cellsX T53 a1)), (1001, .box 25 [.sl (.int .i64) a2]), (24000, .arr 3 (.int .i64) v0.1)] ?_
   rcases zI h with ⟨hb8, h⟩ | ⟨hb8, h⟩
   ·refine zS 3 [(0, .fn (.yield lp) [] []), (1, .bp 1000 0), (2, .bp 1001 0), (7, .int .i64 st1.1), (18, .bool true), (19, .fn (.yield lp) [] []), (20, .int .i64 st1.1), (21, .own 24000)] [(1000, .box 53 (cellsX T53 a1)), (1001, .box 25 [.sl (.int .i64) a2]), (24000, .arr 3 (.int .i64) v0.1)] ?_
    obtain ⟨x9, hx10, h⟩ := Option.bind_eq_some_iff.1 h
    refine yield_opG rfl rfl _ rfl rfl rfl (by decide) rfl hY hΓ hΓx (st1.1, v0.1) [24000] (by (simp only [go_sem, hb6, hb8]) <;> (with_reducible and_intros) <;> first | assumption | rfl | omega | (unfold maxLen; omega)) hx10 ?_
    cases x9 with
    | next s =>
     try simp only at h
     refine zT [(0, .fn (.yield lp) [] []), (1, .bp 1000 0), (2, .bp 1001 0), (7, .int .i64 st1.1), (18, .bool true), (22, .bool true)] [(1000, .box 53 (cellsX T53 a1)), (1001, .box 25 [.sl (.int .i64) a2])] (Γ s) ?_
     refine zB [(0, .fn (.yield lp) [] []), (1, .bp 1000 0), (2, .bp 1001 0), (7, .int .i64 st1.1), (24, .bool false)] [(1000, .box 53 (cellsX T53 a1)), (1001, .box 25 [.sl (.int .i64) a2])] ?_
     refine AW.cond (b := false) rfl (fun hb11 => by cases hb11) (fun _ => ?_)
     refine zm ?_
     refine athen_n ?_
     refine AW.ops ?_
     obtain ⟨c12, h⟩ := ck_some.1 h
     refine zA [(0, .fn (.yield lp) [] []), (1, .bp 1000 0), (2, .bp 1001 0), (7, .int .i64 (st1.1 + 1))] [(1000, .box 53 (cellsX T53 a1)), (1001, .box 25 [.sl (.int .i64) a2])] ?_
     obtain rfl := Option.some.inj h
     exact ⟨_, rfl, zL [] [] []⟩
    | done e =>
     try simp only at h
     refine zT [(0, .fn (.yield lp) [] []), (1, .bp 1000 0), (2, .bp 1001 0), (7, .int .i64 st1.1), (18, .bool true), (22, .bool false)] [(1000, .box 53 (cellsX T53 a1)), (1001, .box 25 [.sl (.int .i64) a2])] (Γx e) ?_
     refine zB [(0, .fn (.yield lp) [] []), (1, .bp 1000 0), (2, .bp 1001 0), (7, .int .i64 st1.1), (24, .bool true)] [(1000, .box 53 (cellsX T53 a1)), (1001, .box 25 [.sl (.int .i64) a2])] ?_
     refine AW.cond (b := true) rfl (fun _ => ?_) (fun hb13 => by cases hb13)
     refine AW.ret ?_
     refine ablock_r ?_
     refine athen_r ?_
     obtain rfl := Option.some.inj h
     rw [← hd3 _ rfl] at ho2
     have h := ho2
     try simp only at h
     refine athen_r ?_
     refine ablock_r ?_
     obtain rfl := Option.some.inj h
     exact rfl
   ·refine zS 4 [(0, .fn (.yield lp) [] []), (1, .bp 1000 0), (2, .bp 1001 0), (7, .int .i64 st1.1), (18, .bool false), (22, .cv (undef))] [(1000, .box 53 (cellsX T53 a1)), (1001, .box 25 [.sl (.int .i64) a2])] ?_
    refine zB [(0, .fn (.yield lp) [] []), (1, .bp 1000 0), (2, .bp 1001 0), (7, .int .i64 st1.1), (24, .bool false)] [(1000, .box 53 (cellsX T53 a1)), (1001, .box 25 [.sl (.int .i64) a2])] ?_
    refine AW.cond (b := false) rfl (fun hb14 => by cases hb14) (fun _ => ?_)
    refine zm ?_
    refine athen_n ?_
    refine AW.ops ?_
    obtain ⟨c15, h⟩ := ck_some.1 h
    refine zA [(0, .fn (.yield lp) [] []), (1, .bp 1000 0), (2, .bp 1001 0), (7, .int .i64 (st1.1 + 1))] [(1000, .box 53 (cellsX T53 a1)), (1001, .box 25 [.sl (.int .i64) a2])] ?_
    obtain rfl := Option.some.inj h
    exact ⟨_, rfl, zL [] [] []⟩
  ·refine AW.exit ?_
   refine athen_e ?_
   obtain rfl := Option.some.inj h
   rw [← hd3 _ rfl] at ho2
   have h := ho2
   try simp only at h
   refine athen_e ?_
   refine ablock_s ?_
   obtain rfl := Option.some.inj h
   exact rfl

theorem hc_weave_ties_sizeF (slf : ((El T53)) → (List Int) → (List ((El T85) × Int)) → Option (Int × (List ((El T85) × Int)))) (hc_slf : ∀ (t : (El T53)) (w : List Int) (known : List ((El T85) × Int)) {r : Int × (List ((El T85) × Int))}, slf t w known = some r → HC Try.prog 45 [(1000, .map true false T85 (.int .i64) known)] [.agg (cellsX T53 t), .sl (.int .i64) w, .own 1000] [(1000, .map true false T85 (.int .i64) r.2)] (.int .i64 r.1)) (t : (El T53)) (w : List Int) (known : List ((El T85) × Int)) {r : Int × (List ((El T85) × Int))} (h : weave_ties_sizeF slf t w known = some r) : HC Try.prog 45 [(1000, .map true false T85 (.int .i64) known)] [.agg (cellsX T53 t), .sl (.int .i64) w, .own 1000] [(1000, .map true false T85 (.int .i64) r.2)] (.int .i64 r.1) := by
 unfold weave_ties_sizeF at h
 refine zH Try.func45 [.tmp 6] 41 ?_
 refine zo ?_
 refine zB [(1, .sl (.int .i64) w), (3, .bp 3 0), (5, .bp 5 0)] [(3, .box 53 (cellsX T53 t)), (5, .box 67 [.own 1000]), (1000, .map true false T85 (.int .i64) known)] ?_
 refine AW.seq ?_
 refine zo ?_
 refine zB [(1, .sl (.int .i64) w), (3, .bp 3 0), (5, .bp 5 0), (15, .bool (decide ((w.length : Int) = 0)))] [(3, .box 53 (cellsX T53 t)), (5, .box 67 [.own 1000]), (1000, .map true false T85 (.int .i64) known)] ?_
 refine zQ h (fun hb1 h => ?_) (fun hb1 h => ?_)
 ·refine zo ?_
  refine zB [(6, .int .i64 1)] [(1000, .map true false T85 (.int .i64) known)] ?_
  refine zr ?_
  obtain rfl := Option.some.inj h
  exact zR [] [] []
 ·refine zk ?_
  refine zo ?_
  refine zS 1 [(1, .sl (.int .i64) w), (3, .bp 3 0), (5, .bp 5 0), (16, .sl (.int .i64) w)] [(3, .box 53 (cellsX T53 t)), (5, .box 67 [.own 1000]), (1000, .map true false T85 (.int .i64) known)] ?_
  obtain ⟨v0, hv2, h⟩ := Option.bind_eq_some_iff.1 h
  refine zC [] [] (hc_weave_keyOf w hv2) [(1, .sl (.int .i64) w), (3, .bp 3 0), (5, .bp 5 0), (17, .agg (cellsX T85 v0))] [(3, .box 53 (cellsX T53 t)), (5, .box 67 [.own 1000]), (1000, .map true false T85 (.int .i64) known)] ?_
  refine zB [(1, .sl (.int .i64) w), (3, .bp 3 0), (5, .bp 5 0), (7, .bp 7 0)] [(3, .box 53 (cellsX T53 t)), (5, .box 67 [.own 1000]), (7, .box 85 (cellsX T85 v0)), (1000, .map true false T85 (.int .i64) known)] ?_
  refine AW.seq ?_
  refine zo ?_
  refine zS 2 [(1, .sl (.int .i64) w), (3, .bp 3 0), (5, .bp 5 0), (7, .bp 7 0), (19, .own 1000), (20, .agg (cellsX T85 v0))] [(3, .box 53 (cellsX T53 t)), (5, .box 67 [.own 1000]), (7, .box 85 (cellsX T85 v0)), (1000, .map true false T85 (.int .i64) known)] ?_
  obtain ⟨c3, h⟩ := ck_some.1 h
  refine AO.lookup mapty_67 (by decide) rfl rfl rfl rfl (l := (cellsX T85 v0)) (by (simp only [go_sem, hb1]) <;> (with_reducible and_intros) <;> first | assumption | rfl | omega | (unfold maxLen; omega)) (by first | rfl | (simp only [go_sem, hb1]) <;> (with_reducible and_intros) <;> first | assumption | rfl | omega | (unfold maxLen; omega)) (by (simp only [go_sem, hb1]) <;> (with_reducible and_intros) <;> first | assumption | rfl | omega | (unfold maxLen; omega)) ?_
  refine zT [(1, .sl (.int .i64) w), (3, .bp 3 0), (5, .bp 5 0), (7, .bp 7 0), (21, .tup [.int .i64 (mget 0 known v0), .bool (mhas known v0)])] [(3, .box 53 (cellsX T53 t)), (5, .box 67 [.own 1000]), (7, .box 85 (cellsX T85 v0)), (1000, .map true false T85 (.int .i64) known)] gt ?_
  refine zB [(1, .sl (.int .i64) w), (3, .bp 3 0), (5, .bp 5 0), (7, .bp 7 0), (8, .int .i64 (mget 0 known v0)), (9, .bool (mhas known v0))] [(3, .box 53 (cellsX T53 t)), (5, .box 67 [.own 1000]), (7, .box 85 (cellsX T85 v0)), (1000, .map true false T85 (.int .i64) known)] ?_
  refine zo ?_
  refine zB [(1, .sl (.int .i64) w), (3, .bp 3 0), (5, .bp 5 0), (7, .bp 7 0), (8, .int .i64 (mget 0 known v0)), (24, .bool (mhas known v0))] [(3, .box 53 (cellsX T53 t)), (5, .box 67 [.own 1000]), (7, .box 85 (cellsX T85 v0)), (1000, .map true false T85 (.int .i64) known)] ?_
  refine zQ h (fun hb4 h => ?_) (fun hb4 h => ?_)
  ·refine zo ?_
   refine zB [(6, .int .i64 (mget 0 known v0))] [(1000, .map true false T85 (.int .i64) known)] ?_
   refine zr ?_
   obtain rfl := Option.some.inj h
   exact zR [] [] []
  ·refine zk ?_
   refine zo ?_
   refine zB [(1, .sl (.int .i64) w), (3, .bp 3 0), (5, .bp 5 0), (7, .bp 7 0), (10, .bp 10 0)] [(3, .box 53 (cellsX T53 t)), (5, .box 67 [.own 1000]), (7, .box 85 (cellsX T85 v0)), (10, .box 3 [.int .i64 0]), (1000, .map true false T85 (.int .i64) known)] ?_
   refine AW.have1 (fun b1 : (List ((El T85) × Int)) × Int => weave_ties_size_k1 v0 b1 = some r) (fun b1 => ⟨fr [(5, .bp 5 0), (7, .bp 7 0), (10, .bp 10 0)], hpGet [(5, .box 67 [.own 1000]), (7, .box 85 (cellsX T85 v0)), (10, .box 3 [.int .i64 b1.2]), (1000, .map true false T85 (.int .i64) b1.1)], gt⟩) (fun b1 h => ?_) (fun hk_weave_ties_size_k1 => ?_)
   ·as_aux_lemma =>
     unfold weave_ties_size_k1 at h
     refine zo ?_
     refine zS 3 [(10, .bp 10 0), (37, .own 1000), (38, .agg (cellsX T85 v0)), (39, .int .i64 b1.2)] [(10, .box 3 [.int .i64 b1.2]), (1000, .map true false T85 (.int .i64) b1.1)] ?_
     obtain ⟨c5, h⟩ := ck_some.1 h
     refine AO.mapPut mapty_67 (by decide) rfl (.inl rfl) rfl rfl (l := (cellsX T85 v0)) (by (simp only [go_sem, hb1, hb4]) <;> (with_reducible and_intros) <;> first | assumption | rfl | omega | (unfold maxLen; omega)) (by first | rfl | (simp only [go_sem, hb1, hb4]) <;> (with_reducible and_intros) <;> first | assumption | rfl | omega | (unfold maxLen; omega)) (by (simp only [go_sem, hb1, hb4]) <;> (with_reducible and_intros) <;> first | assumption | rfl | omega | (unfold maxLen; omega)) (lv := [.int .i64 b1.2]) (by (simp only [go_sem, hb1, hb4]) <;> (with_reducible and_intros) <;> first | assumption | rfl | omega | (unfold maxLen; omega)) (by first | rfl | (simp only [go_sem, hb1, hb4]) <;> (with_reducible and_intros) <;> first | assumption | rfl | omega | (unfold maxLen; omega)) ?_
     refine zT [(10, .bp 10 0)] [(10, .box 3 [.int .i64 b1.2]), (1000, .map true false T85 (.int .i64) (mput b1.1 v0 b1.2))] gt ?_
     refine zB [(10, .bp 10 0)] [(10, .box 3 [.int .i64 b1.2]), (1000, .map true false T85 (.int .i64) (mput b1.1 v0 b1.2))] ?_
     refine zo ?_
     refine zB [(6, .int .i64 b1.2)] [(1000, .map true false T85 (.int .i64) (mput b1.1 v0 b1.2))] ?_
     refine AW.ret ?_
     obtain rfl := Option.some.inj h
     exact zR [] [] []
   ·refine AW.seq ?_
    refine zo ?_
    refine zS 2 [(3, .bp 3 0), (5, .bp 5 0), (7, .bp 7 0), (10, .bp 10 0), (26, .agg (cellsX T53 t)), (27, .sl (.int .i64) w)] [(3, .box 53 (cellsX T53 t)), (5, .box 67 [.own 1000]), (7, .box 85 (cellsX T85 v0)), (10, .box 3 [.int .i64 0]), (1000, .map true false T85 (.int .i64) known)] ?_
    obtain ⟨v0_2, hv6, h⟩ := Option.bind_eq_some_iff.1 h
    refine zC [] [] (hc_weave_ties_starts t w hv6) [(3, .bp 3 0), (5, .bp 5 0), (7, .bp 7 0), (10, .bp 10 0), (28, .fn (.func 62) [] [.bp 38000 0, .bp 38001 0])] [(3, .box 53 (cellsX T53 t)), (5, .box 67 [.own 1000]), (7, .box 85 (cellsX T85 v0)), (10, .box 3 [.int .i64 0]), (1000, .map true false T85 (.int .i64) known), (38000, .box 53 (cellsX T53 t)), (38001, .box 25 [.sl (.int .i64) w])] ?_
    refine zB [(3, .bp 3 0), (5, .bp 5 0), (7, .bp 7 0), (10, .bp 10 0), (28, .fn (.func 62) [] [.bp 38000 0, .bp 38001 0])] [(3, .box 53 (cellsX T53 t)), (5, .box 67 [.own 1000]), (7, .box 85 (cellsX T85 v0)), (10, .box 3 [.int .i64 0]), (1000, .map true false T85 (.int .i64) known), (38000, .box 53 (cellsX T53 t)), (38001, .box 25 [.sl (.int .i64) w])] ?_
    refine AW.block ?_
    obtain ⟨x7, hx8, h⟩ := Option.bind_eq_some_iff.1 h
    refine AW.weaken (s' := ⟨fr [(3, .bp 3 0), (5, .bp 5 0), (7, .bp 7 0), (10, .bp 10 0), (28, .fn (.func 62) [] [.bp 38000 0, .bp 38001 0])], hpGet ([(38000, .box 53 (cellsX T53 t)), (38001, .box 25 [.sl (.int .i64) w])] ++ [(3, .box 53 (cellsX T53 t)), (5, .box 67 [.own 1000]), (7, .box 85 (cellsX T85 v0)), (10, .box 3 [.int .i64 0]), (1000, .map true false T85 (.int .i64) known)]), gt⟩) (zL [] [] []) ?_
    refine AW.rangeF (R := Empty) (l0 := [(3, .bp 3 0), (5, .bp 5 0), (7, .bp 7 0), (10, .bp 10 0)]) (hI := [(38000, .box 53 (cellsX T53 t)), (38001, .box 25 [.sl (.int .i64) w])]) (h0 := fun (st1 : (List ((El T85) × Int)) × Int) => [(3, .box 53 (cellsX T53 t)), (5, .box 67 [.own 1000]), (7, .box 85 (cellsX T85 v0)), (10, .box 3 [.int .i64 st1.2]), (1000, .map true false T85 (.int .i64) st1.1)]) (gg := fun (st1 : (List ((El T85) × Int)) × Int) => gt) (hx0 := (fun (r : Empty) => r.elim)) (gx := (fun (r : Empty) => r.elim)) (ex := (fun (r : Empty) => r.elim)) (known, 0) [(38000, 1000), (38001, 1001)] [(1000, 38000), (1001, 38001)] [(3, 1900), (5, 1901), (7, 1902), (10, 1903)] [(1900, 3), (1901, 5), (1902, 7), (1903, 10)] (by decide) rfl (by first | exact (ic_weave_ties_starts_1 t w (weave_ties_size_y1 slf t) (known, 0) hx8) | simpa only [go_sem] using (ic_weave_ties_starts_1 t w (weave_ties_size_y1 slf t) (known, 0) hx8)) (by (simp only [go_sem, hb1, hb4]) <;> (with_reducible and_intros) <;> first | assumption | rfl | omega | (unfold maxLen; omega)) rfl rfl rfl (fun _ => rfl) rfl (fun r => r.elim) rfl (fun r => r.elim) (fun r => r.elim) (fun _ => rfl) (fun _ => rfl) rfl (fun _ _ => by first | rfl | (exact (hΓ _).trans (hΓ _).symm) | (exact (hΓx _).trans (hΓ _).symm)) (fun _ r => r.elim) ?_ ?_
    ·intro lpy1 y1 st1 x9 h
     unfold weave_ties_size_y1 at h
     refine zV [(3, .bp 1900 0), (5, .bp 1901 0), (7, .bp 1902 0), (10, .bp 1903 0), (29, .int .i64 y1.1), (30, .sl (.int .i64) y1.2)] [(1000, .map true false T85 (.int .i64) st1.1), (1900, .box 53 (cellsX T53 t)), (1901, .box 67 [.own 1000]), (1902, .box 85 (cellsX T85 v0)), (1903, .box 3 [.int .i64 st1.2])] gt ?_
     refine AW.ops ?_
     refine zA [(3, .bp 1900 0), (5, .bp 1901 0), (7, .bp 1902 0), (10, .bp 1903 0), (12, .sl (.int .i64) y1.2)] [(1000, .map true false T85 (.int .i64) st1.1), (1900, .box 53 (cellsX T53 t)), (1901, .box 67 [.own 1000]), (1902, .box 85 (cellsX T85 v0)), (1903, .box 3 [.int .i64 st1.2])] ?_
     refine And.intro rfl ?_
     refine AW.block ?_
     refine AW.draw tab_ok mixed_ok [(4, [1000]), (6, [1903])] [(0, [1903]), (100006, [])] (by decide) (by kernel_rfl) ?_
     as_aux_lemma =>
      refine adops_cut 4 (fun K' hK10 => ?_)
      try dsimp only [List.drop_succ_cons, List.drop_zero, List.take_succ_cons, List.take_zero]
      simp only [go_sem, hb1, hb4]
      repeat with_reducible refine zN ?_
      refine hK10 _ ?_
      as_aux_lemma =>
       obtain ⟨v0_3, hv11, h⟩ := Option.bind_eq_some_iff.1 h
       refine adops.call (by first | trivial | rfl) rfl rfl rfl (fun _ h => h) [] [(1000, 1000)] (hc_slf t y1.2 st1.1 hv11) rfl (by (simp only [go_sem, hb1, hb4]) <;> (with_reducible and_intros) <;> first | assumption | rfl | omega | (unfold maxLen; omega)) (by (simp only [go_sem, hb1, hb4]) <;> (with_reducible and_intros) <;> first | assumption | rfl | omega | (unfold maxLen; omega)) rfl ?_
       obtain ⟨c13, h⟩ := ck_some.1 h
       refine adops_cut 2 (fun K' hK12 => ?_)
       try dsimp only [List.drop_succ_cons, List.drop_zero, List.take_succ_cons, List.take_zero]
       simp only [go_sem, hb1, hb4]
       repeat with_reducible refine zN ?_
       refine hK12 _ ?_
       refine adops_nil ?_
       refine ablock_n ?_
       obtain rfl := Option.some.inj h
       exact rpost_next rfl [] [] [] rfl (by (simp only [go_sem, hb1, hb4]) <;> (with_reducible and_intros) <;> first | assumption | rfl | omega | (unfold maxLen; omega))
    ·cases x7 with
     | inl st1_2 =>
      try simp only at h
      refine ablock_n ?_
      refine athen_n ?_
      exact AW.weaken (zL [] [] []) (hk_weave_ties_size_k1 _ h)
     | inr rx =>
      exact rx.elim

theorem hc_weave_ties_size : ∀ (n : Nat) (t : (El T53)) (w : List Int) (known : List ((El T85) × Int)) {r : Int × (List ((El T85) × Int))}, weave_ties_size n t w known = some r → HC Try.prog 45 [(1000, .map true false T85 (.int .i64) known)] [.agg (cellsX T53 t), .sl (.int .i64) w, .own 1000] [(1000, .map true false T85 (.int .i64) r.2)] (.int .i64 r.1) := by
 intro n
 induction n with
 | zero => intro t w known r h; cases h
 | succ n ih => intro t w known r h; exact hc_weave_ties_sizeF (weave_ties_size n) ih t w known h

theorem hc_weave_Size (l : Int × (List (Int × Int))) (w : List Int) {r : Int × Int} (h : weave_Size l w = some r) : HC Try.prog 19 [] [.agg [.int .i64 l.1, .sl (.pair (.int .i64) (.int .i64)) l.2], .sl (.int .i64) w] [] (.tup [.int .i64 r.1, .int .i64 r.2]) := by
 unfold weave_Size at h
 refine zH Try.func19 [.tmp 4, .tmp 5] 22 ?_
 refine zo ?_
 refine zB [(1, .sl (.int .i64) w), (2, .bp 2 0)] [(2, .box 24 [.int .i64 l.1, .sl (.pair (.int .i64) (.int .i64)) l.2])] ?_
 refine zo ?_
 refine zS 3 [(1, .sl (.int .i64) w), (9, .agg [.int .i64 l.1, .sl (.pair (.int .i64) (.int .i64)) l.2]), (11, .own 11)] [(11, .arr 25 (.sl (.int .i64)) [w])] ?_
 obtain ⟨v0, hv1, h⟩ := Option.bind_eq_some_iff.1 h
 refine zC [11] [] (hc_weave_checked l [w] hv1) [(1, .sl (.int .i64) w), (12, .tup [.agg (cellsX T53 v0.1), .int .i64 v0.2])] [] ?_
 refine zS 5 [(1, .sl (.int .i64) w), (6, .bp 6 0), (14, .int .i64 v0.2)] [(6, .box 53 (cellsX T53 v0.1))] ?_
 refine zB [(1, .sl (.int .i64) w), (6, .bp 6 0), (7, .int .i64 v0.2)] [(6, .box 53 (cellsX T53 v0.1))] ?_
 refine AW.seq ?_
 refine zo ?_
 refine zB [(1, .sl (.int .i64) w), (6, .bp 6 0), (7, .int .i64 v0.2), (16, .bool (!(decide (v0.2 = 0))))] [(6, .box 53 (cellsX T53 v0.1))] ?_
 refine zQ h (fun hb2 h => ?_) (fun hb2 h => ?_)
 ·refine zo ?_
  refine zB [(4, .int .i64 0), (5, .int .i64 v0.2)] [] ?_
  refine zr ?_
  obtain rfl := Option.some.inj h
  exact zR [] [] []
 ·refine zk ?_
  refine zo ?_
  refine zS 2 [(18, .agg (cellsX T53 v0.1)), (19, .sl (.int .i64) w)] [] ?_
  refine AO.makeMap (ak := true) (ae := false) (kt := T85) (vt := (.int .i64)) (by decide) (by decide) rfl rfl ?_
  refine zT [(18, .agg (cellsX T53 v0.1)), (19, .sl (.int .i64) w), (20, .own 20)] [(20, .map true false T85 (.int .i64) [])] gt ?_
  obtain ⟨v0_2, hv3, h⟩ := Option.bind_eq_some_iff.1 h
  refine zC [] [(1000, 20)] (hc_weave_ties_size fuel v0.1 w [] hv3) [(21, .int .i64 v0_2.1)] [] ?_
  refine zB [(4, .int .i64 v0_2.1), (5, .int .i64 0)] [] ?_
  refine AW.ret ?_
  obtain rfl := Option.some.inj h
  exact zR [] [] []

theorem hc_lineallaw03_Awake {r : Bool} (h : lineallaw03_Awake = some r) : HC Try.prog 8 [] [] [] (.bool r) := by
 unfold lineallaw03_Awake at h
 refine zH Try.func8 [.tmp 0] 17 ?_
 refine zo ?_
 refine zB [] [] ?_
 refine zo ?_
 refine zS 4 [(6, .agg [.int .i64 3, .own 5]), (7, .own 7)] [(5, .arr 50 (.pair (.int .i64) (.int .i64)) [(0, 1)]), (7, .arr 3 (.int .i64) [2, 0, 1])] ?_
 obtain ⟨v0, hv1, h⟩ := Option.bind_eq_some_iff.1 h
 refine zC [5, 7] [] (hc_weave_Size (3, [(0, 1)]) [2, 0, 1] hv1) [(8, .tup [.int .i64 v0.1, .int .i64 v0.2])] [] ?_
 refine zB [(1, .int .i64 v0.1), (2, .int .i64 v0.2)] [] ?_
 refine zo ?_
 refine zS 3 [(1, .int .i64 v0.1), (13, .bool (decide (v0.2 = 0)))] [] ?_
 rcases zI h with ⟨hb2, h⟩ | ⟨hb2, h⟩
 ·refine zB [(0, .bool (decide (v0.1 = 3)))] [] ?_
  refine AW.ret ?_
  obtain rfl := Option.some.inj h
  exact zR [] [] []
 ·refine zB [(0, .bool false)] [] ?_
  refine AW.ret ?_
  obtain rfl := Option.some.inj h
  exact zR [] [] []

theorem hc_lineallaw03_Long (l : Int × (List (Int × Int))) (words : List (List Int)) {r : Bool} (h : lineallaw03_Long l words = some r) : HC Try.prog 7 [] [.agg [.int .i64 l.1, .sl (.pair (.int .i64) (.int .i64)) l.2], .sl (.sl (.int .i64)) words] [] (.bool r) := by
 unfold lineallaw03_Long at h
 refine zH Try.func7 [.tmp 4] 21 ?_
 refine zo ?_
 refine zB [(1, .sl (.sl (.int .i64)) words), (2, .bp 2 0)] [(2, .box 24 [.int .i64 l.1, .sl (.pair (.int .i64) (.int .i64)) l.2])] ?_
 refine AW.have1 (fun _ : Unit => lineallaw03_Long_k1 l = some r) (fun _ => ⟨fr [(2, .bp 2 0)], hpGet [(2, .box 24 [.int .i64 l.1, .sl (.pair (.int .i64) (.int .i64)) l.2])], gt⟩) (fun _ h => ?_) (fun hk_lineallaw03_Long_k1 => ?_)
 ·as_aux_lemma =>
   unfold lineallaw03_Long_k1 at h
   refine zo ?_
   refine zB [(4, .bool (decide (60 < (l.2.length : Int))))] [] ?_
   refine AW.ret ?_
   obtain rfl := Option.some.inj h
   exact zR [] [] []
 ·refine AW.seq ?_
  refine zo ?_
  refine zB [(2, .bp 2 0), (7, .sl (.sl (.int .i64)) words), (8, .int .i64 (words.length : Int)), (9, .int .i64 0)] [(2, .box 24 [.int .i64 l.1, .sl (.pair (.int .i64) (.int .i64)) l.2])] ?_
  refine AW.block ?_
  obtain ⟨rv5, hw1, ho2⟩ := Option.bind_eq_some_iff.1 h
  refine AW.loopO (lineallaw03_Long_b1 words) (fun st1 => ⟨fr [(2, .bp 2 0), (7, .sl (.sl (.int .i64)) words), (8, .int .i64 (words.length : Int)), (9, .int .i64 st1)], hpGet [(2, .box 24 [.int .i64 l.1, .sl (.pair (.int .i64) (.int .i64)) l.2])], gt⟩) 0 hw1 (zL [] [] []) ?_
  as_aux_lemma =>
   intro st1 x4 h hd3
   unfold lineallaw03_Long_b1 at h
   refine zo ?_
   refine zB [(2, .bp 2 0), (7, .sl (.sl (.int .i64)) words), (8, .int .i64 (words.length : Int)), (9, .int .i64 st1), (10, .bool (decide (st1 < (words.length : Int))))] [(2, .box 24 [.int .i64 l.1, .sl (.pair (.int .i64) (.int .i64)) l.2])] ?_
   refine AW.seq ?_
   refine zQ h (fun hb6 h => ?_) (fun hb6 h => ?_)
   ·refine zk ?_
    refine AW.seq ?_
    refine AW.block ?_
    refine zo ?_
    obtain ⟨c7, h⟩ := ck_some.1 h
    obtain ⟨c8, h⟩ := ck_some.1 h
    refine zB [(2, .bp 2 0), (6, .sl (.int .i64) (words.getD st1.toNat [])), (7, .sl (.sl (.int .i64)) words), (8, .int .i64 (words.length : Int)), (9, .int .i64 st1)] [(2, .box 24 [.int .i64 l.1, .sl (.pair (.int .i64) (.int .i64)) l.2])] ?_
    refine zo ?_
    refine zB [(2, .bp 2 0), (7, .sl (.sl (.int .i64)) words), (8, .int .i64 (words.length : Int)), (9, .int .i64 st1), (15, .bool (decide (60 < ((words.getD st1.toNat []).length : Int))))] [(2, .box 24 [.int .i64 l.1, .sl (.pair (.int .i64) (.int .i64)) l.2])] ?_
    refine zQ h (fun hb9 h => ?_) (fun hb9 h => ?_)
    ·refine zo ?_
     refine zB [(4, .bool true)] [] ?_
     refine AW.ret ?_
     refine ablock_r ?_
     refine athen_r ?_
     obtain rfl := Option.some.inj h
     rw [← hd3 _ rfl] at ho2
     have h := ho2
     try simp only at h
     refine athen_r ?_
     refine ablock_r ?_
     refine athen_r ?_
     obtain rfl := Option.some.inj h
     exact zR [] [] []
    ·refine zm ?_
     refine athen_n ?_
     refine AW.ops ?_
     obtain ⟨c10, h⟩ := ck_some.1 h
     refine zA [(2, .bp 2 0), (7, .sl (.sl (.int .i64)) words), (8, .int .i64 (words.length : Int)), (9, .int .i64 (st1 + 1))] [(2, .box 24 [.int .i64 l.1, .sl (.pair (.int .i64) (.int .i64)) l.2])] ?_
     obtain rfl := Option.some.inj h
     exact ⟨_, rfl, zL [] [] []⟩
   ·refine AW.exit ?_
    refine athen_e ?_
    obtain rfl := Option.some.inj h
    rw [← hd3 _ rfl] at ho2
    have h := ho2
    try simp only at h
    refine athen_e ?_
    refine ablock_s ?_
    refine athen_n ?_
    exact AW.weaken (zL [] [] []) (hk_lineallaw03_Long_k1 () h)

end Go.Proofs.Ytabchabbdnhjpaa
