/-
  Made by wip/tool/dc.py out of the print of the program: contracts.
-/
import Derived.Test.YtcgflignbhmoaaaQp
import Derived.Test.YtcgflignbhmoaaaShs
import Derived.Test.YtcgflignbhmoaaaAvd
import Derived.Test.YtcgflignbhmoaaaBl
import Derived.Test.YtcgflignbhmoaaaMyc1
import Derived.Test.YtcgflignbhmoaaaMyc3
namespace Go.Proofs.Ytcgflignbhmoaaa
open Go.RowKit

set_option linter.unusedSimpArgs false
set_option linter.unusedVariables false
set_option linter.constructorNameAsVariable false

set_option maxRecDepth 100000
set_option maxHeartbeats 2000000

theorem hc_spec_Way (s : Int × Int × (List (List Int)) × (List (List Int))) (to0 : Int) {r : (List Int) × Int} (h : spec_Way s to0 = some r) : HC Try.prog 33 [] [.agg [.int .i64 s.1, .int .i64 s.2.1, .sl (.sl (.int .i64)) s.2.2.1, .sl (.sl (.int .i64)) s.2.2.2], .int .i64 to0] [] (.tup [.sl (.int .i64) r.1, .int .i64 r.2]) := by
 unfold spec_Way at h
 refine zH Try.func33 [.cell 4 25, .cell 5 28] 28 ?_
 refine zo ?_
 refine zB [(2, .bp 2 0), (3, .bp 3 0), (4, .bp 4 0), (5, .bp 5 0)] [(2, .box 24 [.int .i64 s.1, .int .i64 s.2.1, .sl (.sl (.int .i64)) s.2.2.1, .sl (.sl (.int .i64)) s.2.2.2]), (3, .box 3 [.int .i64 to0]), (4, .box 25 [.cv (.slice none 0 0)]), (5, .box 28 [.int .i64 0])] ?_
 refine zo ?_
 refine zS 3 [(3, .bp 3 0), (4, .bp 4 0), (5, .bp 5 0), (11, .agg [.int .i64 s.1, .int .i64 s.2.1, .sl (.sl (.int .i64)) s.2.2.1, .sl (.sl (.int .i64)) s.2.2.2]), (13, .own 13)] [(3, .box 3 [.int .i64 to0]), (4, .box 25 [.cv (.slice none 0 0)]), (5, .box 28 [.int .i64 0]), (13, .arr 3 (.int .i64) [to0])] ?_
 obtain ⟨v0, hv1, h⟩ := Option.bind_eq_some_iff.1 h
 refine zC [13] [] (hc_spec_checked s [to0] hv1) [(3, .bp 3 0), (4, .bp 4 0), (5, .bp 5 0), (14, .tup [.agg [.int .i64 v0.1, .int .i64 v0.2.1, .sl (.sl (.int .i64)) v0.2.2.1, .sl (.sl (.int .i64)) v0.2.2.2.1], .int .i64 v0.2.2.2.2])] [(3, .box 3 [.int .i64 to0]), (4, .box 25 [.cv (.slice none 0 0)]), (5, .box 28 [.int .i64 0])] ?_
 refine zS 5 [(3, .bp 3 0), (4, .bp 4 0), (5, .bp 5 0), (6, .bp 6 0), (16, .int .i64 v0.2.2.2.2)] [(3, .box 3 [.int .i64 to0]), (4, .box 25 [.cv (.slice none 0 0)]), (5, .box 28 [.int .i64 0]), (6, .box 60 [.int .i64 v0.1, .int .i64 v0.2.1, .sl (.sl (.int .i64)) v0.2.2.1, .sl (.sl (.int .i64)) v0.2.2.2.1])] ?_
 refine zB [(3, .bp 3 0), (4, .bp 4 0), (5, .bp 5 0), (6, .bp 6 0), (7, .int .i64 v0.2.2.2.2)] [(3, .box 3 [.int .i64 to0]), (4, .box 25 [.cv (.slice none 0 0)]), (5, .box 28 [.int .i64 0]), (6, .box 60 [.int .i64 v0.1, .int .i64 v0.2.1, .sl (.sl (.int .i64)) v0.2.2.1, .sl (.sl (.int .i64)) v0.2.2.2.1])] ?_
 refine AW.seq ?_
 refine zo ?_
 refine zB [(3, .bp 3 0), (4, .bp 4 0), (5, .bp 5 0), (6, .bp 6 0), (7, .int .i64 v0.2.2.2.2), (18, .bool (!(decide (v0.2.2.2.2 = 0))))] [(3, .box 3 [.int .i64 to0]), (4, .box 25 [.cv (.slice none 0 0)]), (5, .box 28 [.int .i64 0]), (6, .box 60 [.int .i64 v0.1, .int .i64 v0.2.1, .sl (.sl (.int .i64)) v0.2.2.1, .sl (.sl (.int .i64)) v0.2.2.2.1])] ?_
 refine zQ h (fun hb2 h => ?_) (fun hb2 h => ?_)
 ·refine zo ?_
  refine zB [(4, .bp 4 0), (5, .bp 5 0)] [(4, .box 25 [.cv (.slice none 0 0)]), (5, .box 28 [.int .i64 v0.2.2.2.2])] ?_
  refine zr ?_
  obtain rfl := Option.some.inj h
  exact zR [] [] []
 ·refine zk ?_
  refine AW.have1 (fun _ : Unit => spec_Way_k1 = some r) (fun _ => ⟨fr [(4, .bp 4 0), (5, .bp 5 0)], hpGet [(4, .box 25 [.cv (.slice none 0 0)]), (5, .box 28 [.int .i64 0])], gt⟩) (fun _ h => ?_) (fun hk_spec_Way_k1 => ?_)
  ·as_aux_lemma =>
    unfold spec_Way_k1 at h
    refine zo ?_
    refine zB [(4, .bp 4 0), (5, .bp 5 0)] [(4, .box 25 [.cv (.slice none 0 0)]), (5, .box 28 [.int .i64 5])] ?_
    refine AW.ret ?_
    obtain rfl := Option.some.inj h
    exact zR [] [] []
  ·refine AW.seq ?_
   refine zo ?_
   refine zS 1 [(3, .bp 3 0), (4, .bp 4 0), (5, .bp 5 0), (20, .agg [.int .i64 v0.1, .int .i64 v0.2.1, .sl (.sl (.int .i64)) v0.2.2.1, .sl (.sl (.int .i64)) v0.2.2.2.1])] [(3, .box 3 [.int .i64 to0]), (4, .box 25 [.cv (.slice none 0 0)]), (5, .box 28 [.int .i64 0])] ?_
   obtain ⟨v0_2, hv3, h⟩ := Option.bind_eq_some_iff.1 h
   refine zC [] [] (hc_spec_machine_ways (v0.1, v0.2.1, v0.2.2.1, v0.2.2.2.1) hv3) [(3, .bp 3 0), (4, .bp 4 0), (5, .bp 5 0), (21, .fn (.func 98) [] [.bp 31000 0])] [(3, .box 3 [.int .i64 to0]), (4, .box 25 [.cv (.slice none 0 0)]), (5, .box 28 [.int .i64 0]), (31000, .box 60 [.int .i64 v0.1, .int .i64 v0.2.1, .sl (.sl (.int .i64)) v0.2.2.1, .sl (.sl (.int .i64)) v0.2.2.2.1])] ?_
   refine zB [(3, .bp 3 0), (4, .bp 4 0), (5, .bp 5 0), (21, .fn (.func 98) [] [.bp 31000 0])] [(3, .box 3 [.int .i64 to0]), (4, .box 25 [.cv (.slice none 0 0)]), (5, .box 28 [.int .i64 0]), (31000, .box 60 [.int .i64 v0.1, .int .i64 v0.2.1, .sl (.sl (.int .i64)) v0.2.2.1, .sl (.sl (.int .i64)) v0.2.2.2.1])] ?_
   refine AW.block ?_
   obtain ⟨x4, hx5, h⟩ := Option.bind_eq_some_iff.1 h
   refine AW.weaken (s' := ⟨fr [(3, .bp 3 0), (4, .bp 4 0), (5, .bp 5 0), (21, .fn (.func 98) [] [.bp 31000 0])], hpGet ([(31000, .box 60 [.int .i64 v0.1, .int .i64 v0.2.1, .sl (.sl (.int .i64)) v0.2.2.1, .sl (.sl (.int .i64)) v0.2.2.2.1])] ++ [(3, .box 3 [.int .i64 to0]), (4, .box 25 [.cv (.slice none 0 0)]), (5, .box 28 [.int .i64 0])]), gt⟩) (zL [] [] []) ?_
   refine AW.rangeF (R := (List Int)) (l0 := [(3, .bp 3 0), (4, .bp 4 0), (5, .bp 5 0)]) (hI := [(31000, .box 60 [.int .i64 v0.1, .int .i64 v0.2.1, .sl (.sl (.int .i64)) v0.2.2.1, .sl (.sl (.int .i64)) v0.2.2.2.1])]) (h0 := fun (st1 : Unit) => [(3, .box 3 [.int .i64 to0]), (4, .box 25 [.cv (.slice none 0 0)]), (5, .box 28 [.int .i64 0])]) (gg := fun (st1 : Unit) => gt) (hx0 := (fun (r1 : (List Int)) => [(3, .box 3 [.int .i64 to0]), (4, .box 25 [.sl (.int .i64) r1]), (5, .box 28 [.int .i64 0])])) (gx := (fun (r1 : (List Int)) => gt)) (ex := (fun (r1 : (List Int)) => Exit.ret)) () [(31000, 1000)] [(1000, 31000)] [(3, 1900), (4, 1901), (5, 1902)] [(1900, 3), (1901, 4), (1902, 5)] (by decide) rfl (by first | exact (ic_spec_machine_ways_1 (v0.1, v0.2.1, v0.2.2.1, v0.2.2.2.1) (spec_Way_y1 to0) () hx5) | simpa only [go_sem] using (ic_spec_machine_ways_1 (v0.1, v0.2.1, v0.2.2.1, v0.2.2.2.1) (spec_Way_y1 to0) () hx5)) (by (simp only [go_sem, hb2]) <;> (with_reducible and_intros) <;> first | assumption | rfl | omega | (unfold maxLen; omega)) rfl rfl rfl (fun _ => rfl) rfl (fun _ => rfl) rfl (fun _ => rfl) (fun _ => rfl) (fun _ => rfl) (fun _ => rfl) rfl (fun _ _ => by first | rfl | (exact (hΓ _).trans (hΓ _).symm) | (exact (hΓx _).trans (hΓ _).symm)) (fun _ _ => by first | rfl | (exact (hΓ _).trans (hΓ _).symm) | (exact (hΓx _).trans (hΓ _).symm)) ?_ ?_
   ·intro lpy1 y1 st1 x6 h
    unfold spec_Way_y1 at h
    refine zV [(3, .bp 1900 0), (4, .bp 1901 0), (5, .bp 1902 0), (22, .int .i64 y1.1), (23, .sl (.int .i64) y1.2)] [(1900, .box 3 [.int .i64 to0]), (1901, .box 25 [.cv (.slice none 0 0)]), (1902, .box 28 [.int .i64 0])] gt ?_
    refine zo ?_
    refine zB [(3, .bp 1900 0), (4, .bp 1901 0), (5, .bp 1902 0), (8, .int .i64 y1.1), (23, .sl (.int .i64) y1.2)] [(1900, .box 3 [.int .i64 to0]), (1901, .box 25 [.cv (.slice none 0 0)]), (1902, .box 28 [.int .i64 0])] ?_
    refine AW.ops ?_
    refine zA [(3, .bp 1900 0), (4, .bp 1901 0), (5, .bp 1902 0), (8, .int .i64 y1.1), (9, .sl (.int .i64) y1.2)] [(1900, .box 3 [.int .i64 to0]), (1901, .box 25 [.cv (.slice none 0 0)]), (1902, .box 28 [.int .i64 0])] ?_
    refine And.intro rfl ?_
    refine AW.block ?_
    refine zo ?_
    refine zB [(3, .bp 1900 0), (4, .bp 1901 0), (5, .bp 1902 0), (9, .sl (.int .i64) y1.2), (26, .bool (decide (y1.1 = to0)))] [(1900, .box 3 [.int .i64 to0]), (1901, .box 25 [.cv (.slice none 0 0)]), (1902, .box 28 [.int .i64 0])] ?_
    refine zQ h (fun hb7 h => ?_) (fun hb7 h => ?_)
    ·refine zo ?_
     refine zB [(3, .bp 1900 0), (4, .bp 1901 0), (5, .bp 1902 0)] [(1900, .box 3 [.int .i64 to0]), (1901, .box 25 [.sl (.int .i64) y1.2]), (1902, .box 28 [.int .i64 0])] ?_
     refine AW.ret ?_
     refine ablock_r ?_
     obtain rfl := Option.some.inj h
     exact rpost_ret rfl rfl [] [] [] rfl (by (simp only [go_sem, hb2, hb7]) <;> (with_reducible and_intros) <;> first | assumption | rfl | omega | (unfold maxLen; omega))
    ·refine zm ?_
     obtain rfl := Option.some.inj h
     exact rpost_next rfl [] [] [] rfl (by (simp only [go_sem, hb2, hb7]) <;> (with_reducible and_intros) <;> first | assumption | rfl | omega | (unfold maxLen; omega))
   ·cases x4 with
    | inl st1_2 =>
     try simp only at h
     refine ablock_n ?_
     refine athen_n ?_
     exact AW.weaken (zL [] [] []) (hk_spec_Way_k1 () h)
    | inr r1 =>
     try simp only at h
     refine ablock_r ?_
     refine athen_r ?_
     obtain rfl := Option.some.inj h
     exact zR [] [] []

theorem hc_cmp_isNaN (x0 : Int) {r : Unit} (h : cmp_isNaN x0 = some r) : HC Try.prog 119 [] [.int .i64 x0] [] (.bool false) := by
 unfold cmp_isNaN at h
 refine zH Try.func119 [.tmp 2] 6 ?_
 refine zo ?_
 refine zB [(0, .int .i64 x0)] [] ?_
 refine zo ?_
 refine zB [(2, .bool false)] [] ?_
 refine AW.ret ?_
 obtain rfl := Option.some.inj h
 exact zR [] [] []

theorem hc_cmp_Less (x0 : Int) (y : Int) {r : Unit} (h : cmp_Less x0 y = some r) : HC Try.prog 109 [] [.int .i64 x0, .int .i64 y] [] (.bool (decide (x0 < y))) := by
 unfold cmp_Less at h
 refine zH Try.func109 [.tmp 4] 17 ?_
 refine zo ?_
 refine zB [(0, .int .i64 x0), (1, .int .i64 y)] [] ?_
 refine zo ?_
 refine zS 1 [(0, .int .i64 x0), (1, .int .i64 y), (5, .int .i64 x0)] [] ?_
 obtain ⟨v0, hv1, h⟩ := Option.bind_eq_some_iff.1 h
 refine zC [] [] (hc_cmp_isNaN x0 hv1) [(0, .int .i64 x0), (1, .int .i64 y), (6, .bool false)] [] ?_
 refine zS 5 [(0, .int .i64 x0), (1, .int .i64 y), (11, .bool false)] [] ?_
 refine zS 5 [(16, .bool (decide (x0 < y)))] [] ?_
 refine zB [(4, .bool (decide (x0 < y)))] [] ?_
 refine AW.ret ?_
 obtain rfl := Option.some.inj h
 exact zR [] [] []

theorem hc_slices_insertionSortOrdered (a : Int) (b : Int) (data : List Int) {r : (List Int)} (h : slices_insertionSortOrdered a b data = some r) : HC Try.prog 103 [(1000, .arr 3 (.int .i64) data)] [.own 1000, .int .i64 a, .int .i64 b] [(1000, .arr 3 (.int .i64) r)] (.tup []) := by
 unfold slices_insertionSortOrdered at h
 refine zH Try.func103 [] 49 ?_
 refine zo ?_
 obtain ⟨c1, h⟩ := ck_some.1 h
 refine zB [(0, .own 1000), (1, .int .i64 a), (2, .int .i64 b), (6, .int .i64 (a + 1))] [(1000, .arr 3 (.int .i64) data)] ?_
 refine AW.block ?_
 obtain ⟨rv6, hw2, ho3⟩ := Option.bind_eq_some_iff.1 h
 refine AW.loopO (slices_insertionSortOrdered_b1 a b) (fun st1 => ⟨fr [(0, .own 1000), (1, .int .i64 a), (2, .int .i64 b), (6, .int .i64 st1.2)], hpGet [(1000, .arr 3 (.int .i64) st1.1)], gt⟩) (data, (a + 1)) hw2 (zL [] [] []) ?_
 as_aux_lemma =>
  intro st1 x5 h hd4
  unfold slices_insertionSortOrdered_b1 at h
  refine AW.seq ?_
  refine zo ?_
  refine zB [(0, .own 1000), (1, .int .i64 a), (2, .int .i64 b), (6, .int .i64 st1.2), (12, .bool (decide (st1.2 < b)))] [(1000, .arr 3 (.int .i64) st1.1)] ?_
  refine zQ h (fun hb7 h => ?_) (fun hb7 h => ?_)
  ·refine zk ?_
   refine AW.have1 (fun b1 : (List Int) => slices_insertionSortOrdered_k1 st1 b1 = some x5) (fun b1 => ⟨fr [(0, .own 1000), (1, .int .i64 a), (2, .int .i64 b), (6, .int .i64 st1.2)], hpGet [(1000, .arr 3 (.int .i64) b1)], gt⟩) (fun b1 h => ?_) (fun hk_slices_insertionSortOrdered_k1 => ?_)
   ·as_aux_lemma =>
     unfold slices_insertionSortOrdered_k1 at h
     refine AW.ops ?_
     obtain ⟨c8, h⟩ := ck_some.1 h
     refine zA [(0, .own 1000), (1, .int .i64 a), (2, .int .i64 b), (6, .int .i64 (st1.2 + 1))] [(1000, .arr 3 (.int .i64) b1)] ?_
     obtain rfl := Option.some.inj h
     exact ⟨_, rfl, zL [] [] []⟩
   ·refine AW.seq ?_
    refine AW.block ?_
    refine zo ?_
    refine zB [(0, .own 1000), (1, .int .i64 a), (2, .int .i64 b), (6, .int .i64 st1.2), (7, .int .i64 st1.2)] [(1000, .arr 3 (.int .i64) st1.1)] ?_
    refine AW.block ?_
    obtain ⟨rv13, hw9, ho10⟩ := Option.bind_eq_some_iff.1 h
    refine AW.loopO (slices_insertionSortOrdered_b2 a) (fun st2 => ⟨fr [(0, .own 1000), (1, .int .i64 a), (2, .int .i64 b), (6, .int .i64 st1.2), (7, .int .i64 st2.2)], hpGet [(1000, .arr 3 (.int .i64) st2.1)], gt⟩) st1 hw9 (zL [] [] []) ?_
    as_aux_lemma =>
     intro st2 x12 h hd11
     unfold slices_insertionSortOrdered_b2 at h
     refine AW.seq ?_
     refine AW.seq ?_
     refine AW.draw tab_ok mixed_ok [] [] (by decide) (lex_fast (by kernel_rfl)) ?_
     as_aux_lemma =>
      refine adops_cut 4 (fun K' hK14 => ?_)
      try dsimp only [List.drop_succ_cons, List.drop_zero, List.take_succ_cons, List.take_zero]
      simp only [go_sem, hb7]
      repeat with_reducible refine zN ?_
      refine hK14 _ ?_
      as_aux_lemma =>
       rcases zI h with ⟨hb15, h⟩ | ⟨hb15, h⟩
       ·simp only [hb15]
        as_aux_lemma =>
         obtain ⟨c17, h⟩ := ck_some.1 h
         obtain ⟨c18, h⟩ := ck_some.1 h
         refine adops_cut 6 (fun K' hK16 => ?_)
         try dsimp only [List.drop_succ_cons, List.drop_zero, List.take_succ_cons, List.take_zero]
         simp only [go_sem, hb7, hb15]
         repeat with_reducible refine zN ?_
         refine hK16 _ ?_
         as_aux_lemma =>
          obtain ⟨c20, h⟩ := ck_some.1 h
          obtain ⟨c21, h⟩ := ck_some.1 h
          obtain ⟨c22, h⟩ := ck_some.1 h
          refine adops_cut 3 (fun K' hK19 => ?_)
          try dsimp only [List.drop_succ_cons, List.drop_zero, List.take_succ_cons, List.take_zero]
          simp only [go_sem, hb7, hb15]
          repeat with_reducible refine zN ?_
          refine hK19 _ ?_
          as_aux_lemma =>
           obtain ⟨v0, hv23, h⟩ := Option.bind_eq_some_iff.1 h
           refine adops.call (by first | trivial | rfl) rfl rfl rfl (fun _ h => ⟨fun _ => h, fun hn => absurd rfl hn⟩) [] [] (hc_cmp_Less (st2.1.getD st2.2.toNat 0) (st2.1.getD (st2.2 - 1).toNat 0) hv23) rfl (by (simp only [go_sem, hb7, hb15]) <;> (with_reducible and_intros) <;> first | assumption | rfl | omega | (unfold maxLen; omega)) (by (simp only [go_sem, hb7, hb15]) <;> (with_reducible and_intros) <;> first | assumption | rfl | omega | (unfold maxLen; omega)) rfl ?_
           refine adops_cut 1 (fun K' hK24 => ?_)
           try dsimp only [List.drop_succ_cons, List.drop_zero, List.take_succ_cons, List.take_zero]
           simp only [go_sem, hb7, hb15]
           repeat with_reducible refine zN ?_
           refine hK24 _ ?_
           refine adops_nil ?_
           refine athen_n ?_
           refine zV [(0, .own 1000), (1, .int .i64 a), (2, .int .i64 b), (6, .int .i64 st1.2), (7, .int .i64 st2.2), (30, .bool (decide ((st2.1.getD st2.2.toNat 0) < (st2.1.getD (st2.2 - 1).toNat 0))))] [(1000, .arr 3 (.int .i64) st2.1)] gt ?_
           as_aux_lemma =>
            refine zQ h (fun hb25 h => ?_) (fun hb25 h => ?_)
            ·refine zk ?_
             refine AW.seq ?_
             refine AW.block ?_
             refine AW.draw tab_ok mixed_ok [(15, [1000]), (17, [1000])] [(2, [1000]), (3, []), (4, []), (100015, []), (100017, [])] (by decide) (lex_fast (by kernel_rfl)) ?_
             as_aux_lemma =>
              obtain ⟨c27, h⟩ := ck_some.1 h
              refine adops_cut 6 (fun K' hK26 => ?_)
              try dsimp only [List.drop_succ_cons, List.drop_zero, List.take_succ_cons, List.take_zero]
              simp only [go_sem, hb7, hb15, hb25]
              repeat with_reducible refine zN ?_
              refine hK26 _ ?_
              as_aux_lemma =>
               obtain ⟨c29, h⟩ := ck_some.1 h
               obtain ⟨c30, h⟩ := ck_some.1 h
               obtain ⟨c31, h⟩ := ck_some.1 h
               refine adops_cut 6 (fun K' hK28 => ?_)
               try dsimp only [List.drop_succ_cons, List.drop_zero, List.take_succ_cons, List.take_zero]
               simp only [go_sem, hb7, hb15, hb25]
               repeat with_reducible refine zN ?_
               refine hK28 _ ?_
               as_aux_lemma =>
                obtain ⟨c33, h⟩ := ck_some.1 h
                obtain ⟨c34, h⟩ := ck_some.1 h
                obtain ⟨c35, h⟩ := ck_some.1 h
                obtain ⟨c36, h⟩ := ck_some.1 h
                obtain ⟨c37, h⟩ := ck_some.1 h
                obtain ⟨c38, h⟩ := ck_some.1 h
                refine adops_cut 6 (fun K' hK32 => ?_)
                try dsimp only [List.drop_succ_cons, List.drop_zero, List.take_succ_cons, List.take_zero]
                simp only [go_sem, hb7, hb15, hb25]
                repeat with_reducible refine zN ?_
                refine hK32 _ ?_
                refine adops_nil ?_
                refine ablock_n ?_
                refine athen_n ?_
                refine zV [(0, .own 1000), (1, .int .i64 a), (2, .int .i64 b), (6, .int .i64 st1.2), (7, .int .i64 st2.2)] [(1000, .arr 3 (.int .i64) ((st2.1.set st2.2.toNat (st2.1.getD (st2.2 - 1).toNat 0)).set (st2.2 - 1).toNat (st2.1.getD st2.2.toNat 0)))] gt ?_
                as_aux_lemma =>
                 refine AW.ops ?_
                 obtain ⟨c39, h⟩ := ck_some.1 h
                 refine zA [(0, .own 1000), (1, .int .i64 a), (2, .int .i64 b), (6, .int .i64 st1.2), (7, .int .i64 (st2.2 - 1))] [(1000, .arr 3 (.int .i64) ((st2.1.set st2.2.toNat (st2.1.getD (st2.2 - 1).toNat 0)).set (st2.2 - 1).toNat (st2.1.getD st2.2.toNat 0)))] ?_
                 obtain rfl := Option.some.inj h
                 exact ⟨_, rfl, zL [] [] []⟩
            ·refine AW.exit ?_
             refine athen_e ?_
             obtain rfl := Option.some.inj h
             rw [← hd11 _ rfl] at ho10
             have h := ho10
             refine athen_e ?_
             refine ablock_s ?_
             refine ablock_n ?_
             refine athen_n ?_
             exact AW.weaken (zL [] [] []) (hk_slices_insertionSortOrdered_k1 _ h)
       ·simp only [hb15]
        as_aux_lemma =>
         refine adops_cut 4 (fun K' hK40 => ?_)
         try dsimp only [List.drop_succ_cons, List.drop_zero, List.take_succ_cons, List.take_zero]
         simp only [go_sem, hb7, hb15]
         repeat with_reducible refine zN ?_
         refine hK40 _ ?_
         as_aux_lemma =>
          refine adops_cut 4 (fun K' hK41 => ?_)
          try dsimp only [List.drop_succ_cons, List.drop_zero, List.take_succ_cons, List.take_zero]
          simp only [go_sem, hb7, hb15]
          repeat with_reducible refine zN ?_
          refine hK41 _ ?_
          as_aux_lemma =>
           refine adops_cut 3 (fun K' hK42 => ?_)
           try dsimp only [List.drop_succ_cons, List.drop_zero, List.take_succ_cons, List.take_zero]
           simp only [go_sem, hb7, hb15]
           repeat with_reducible refine zN ?_
           refine hK42 _ ?_
           refine adops_nil ?_
           refine athen_n ?_
           refine zV [(0, .own 1000), (1, .int .i64 a), (2, .int .i64 b), (6, .int .i64 st1.2), (7, .int .i64 st2.2), (30, .bool false)] [(1000, .arr 3 (.int .i64) st2.1)] gt ?_
           as_aux_lemma =>
            refine AW.cond (b := false) rfl (fun hb43 => by cases hb43) (fun _ => ?_)
            refine AW.exit ?_
            refine athen_e ?_
            obtain rfl := Option.some.inj h
            rw [← hd11 _ rfl] at ho10
            have h := ho10
            refine athen_e ?_
            refine ablock_s ?_
            refine ablock_n ?_
            refine athen_n ?_
            exact AW.weaken (zL [] [] []) (hk_slices_insertionSortOrdered_k1 _ h)
  ·refine AW.exit ?_
   refine athen_e ?_
   obtain rfl := Option.some.inj h
   rw [← hd4 _ rfl] at ho3
   have h := ho3
   refine athen_e ?_
   refine ablock_s ?_
   obtain rfl := Option.some.inj h
   exact zR [] [] []

theorem hc_slices_pdqsortOrdered (a : Int) (b : Int) (limit : Int) (data : List Int) {r : (List Int)} (h : slices_pdqsortOrdered a b limit data = some r) : HC Try.prog 101 [(1000, .arr 3 (.int .i64) data)] [.own 1000, .int .i64 a, .int .i64 b, .int .i64 limit] [(1000, .arr 3 (.int .i64) r)] (.tup []) := by
 unfold slices_pdqsortOrdered at h
 refine zH Try.func101 [] 134 ?_
 refine zo ?_
 refine zB [(0, .own 1000), (1, .int .i64 a), (2, .int .i64 b), (3, .int .i64 limit), (8, .bool true)] [(1000, .arr 3 (.int .i64) data)] ?_
 refine zo ?_
 refine zB [(0, .own 1000), (1, .int .i64 a), (2, .int .i64 b), (3, .int .i64 limit), (8, .bool true), (9, .bool true)] [(1000, .arr 3 (.int .i64) data)] ?_
 refine AW.block ?_
 obtain ⟨rv5, hw1, ho2⟩ := Option.bind_eq_some_iff.1 h
 refine AW.loopO (slices_pdqsortOrdered_b1 a b limit data) (fun st1 => ⟨fr [(0, .own 1000), (1, .int .i64 a), (2, .int .i64 b), (3, .int .i64 limit), (8, .bool true), (9, .bool true)], hpGet [(1000, .arr 3 (.int .i64) data)], gt⟩) () hw1 (zL [] [] []) ?_
 as_aux_lemma =>
  intro st1 x4 h hd3
  unfold slices_pdqsortOrdered_b1 at h
  refine AW.block ?_
  refine zo ?_
  obtain ⟨c6, h⟩ := ck_some.1 h
  refine zB [(0, .own 1000), (1, .int .i64 a), (2, .int .i64 b), (3, .int .i64 limit), (8, .bool true), (9, .bool true), (10, .int .i64 (b - a))] [(1000, .arr 3 (.int .i64) data)] ?_
  refine AW.seq ?_
  refine zo ?_
  refine zB [(0, .own 1000), (1, .int .i64 a), (2, .int .i64 b), (3, .int .i64 limit), (8, .bool true), (9, .bool true), (10, .int .i64 (b - a)), (23, .bool (decide ((b - a) ≤ 12)))] [(1000, .arr 3 (.int .i64) data)] ?_
  refine zQ h (fun hb7 h => ?_) (fun hb7 h => ?_)
  ·refine zo ?_
   refine zS 3 [(24, .own 1000), (25, .int .i64 a), (26, .int .i64 b)] [(1000, .arr 3 (.int .i64) data)] ?_
   obtain ⟨v0, hv8, h⟩ := Option.bind_eq_some_iff.1 h
   refine zC [] [(1000, 1000)] (hc_slices_insertionSortOrdered a b data hv8) [] [(1000, .arr 3 (.int .i64) v0)] ?_
   refine zB [] [(1000, .arr 3 (.int .i64) v0)] ?_
   refine zr ?_
   refine ablock_r ?_
   obtain rfl := Option.some.inj h
   rw [← hd3 _ rfl] at ho2
   have h := ho2
   refine athen_r ?_
   refine ablock_r ?_
   obtain rfl := Option.some.inj h
   exact zR [] [] []
  ·refine zk ?_
   refine AW.seq ?_
   refine zo ?_
   refine zB [(0, .own 1000), (1, .int .i64 a), (2, .int .i64 b), (3, .int .i64 limit), (8, .bool true), (9, .bool true), (10, .int .i64 (b - a)), (29, .bool (decide (limit = 0)))] [(1000, .arr 3 (.int .i64) data)] ?_
   refine zQ h (fun hb9 h => ?_) (fun hb9 h => ?_)
   ·refine zo ?_
    cases h
   ·refine zk ?_
    refine AW.seq ?_
    refine zo ?_
    refine zB [(0, .own 1000), (1, .int .i64 a), (2, .int .i64 b), (3, .int .i64 limit), (8, .bool true), (9, .bool true), (10, .int .i64 (b - a)), (35, .bool false)] [(1000, .arr 3 (.int .i64) data)] ?_
    refine AW.cond (b := false) rfl (fun hb10 => by cases hb10) (fun _ => ?_)
    refine zk ?_
    refine zo ?_
    cases h

theorem hc_slices_Sort (x0 : List Int) {r : (List Int)} (h : slices_Sort x0 = some r) : HC Try.prog 97 [(1000, .arr 3 (.int .i64) x0)] [.own 1000] [(1000, .arr 3 (.int .i64) r)] (.tup []) := by
 unfold slices_Sort at h
 refine zH Try.func97 [] 11 ?_
 refine zo ?_
 refine zB [(0, .own 1000), (2, .int .i64 (x0.length : Int))] [(1000, .arr 3 (.int .i64) x0)] ?_
 refine AW.ops ?_
 obtain ⟨c1, h⟩ := ck_some.1 h
 refine zS 4 [(5, .own 1000), (6, .int .i64 (x0.length : Int)), (8, .int .u64 (x0.length : Int))] [(1000, .arr 3 (.int .i64) x0)] ?_
 obtain ⟨v0, hv2, h⟩ := Option.bind_eq_some_iff.1 h
 refine zC [] [] (hc_math_bits_Len (x0.length : Int) hv2) [(5, .own 1000), (6, .int .i64 (x0.length : Int)), (9, .int .i64 v0)] [(1000, .arr 3 (.int .i64) x0)] ?_
 obtain ⟨v0_2, hv3, h⟩ := Option.bind_eq_some_iff.1 h
 refine zC [] [(1000, 1000)] (hc_slices_pdqsortOrdered 0 (x0.length : Int) v0 x0 hv3) [] [(1000, .arr 3 (.int .i64) v0_2)] ?_
 refine zA [] [(1000, .arr 3 (.int .i64) v0_2)] ?_
 obtain rfl := Option.some.inj h
 exact zR [] [] []

theorem hc_spec_machine_reached (m : Int × Int × (List (List Int)) × (List (List Int))) {r : (List Int)} (h : spec_machine_reached m = some r) : HC Try.prog 73 [] [.agg [.int .i64 m.1, .int .i64 m.2.1, .sl (.sl (.int .i64)) m.2.2.1, .sl (.sl (.int .i64)) m.2.2.2]] [(2000, .arr 3 (.int .i64) r)] (.own 2000) := by
 unfold spec_machine_reached at h
 refine zH Try.func73 [.tmp 2] 16 ?_
 refine zo ?_
 refine zB [(1, .bp 1 0)] [(1, .box 60 [.int .i64 m.1, .int .i64 m.2.1, .sl (.sl (.int .i64)) m.2.2.1, .sl (.sl (.int .i64)) m.2.2.2])] ?_
 refine zo ?_
 refine zB [(1, .bp 1 0), (3, .bp 3 0)] [(1, .box 60 [.int .i64 m.1, .int .i64 m.2.1, .sl (.sl (.int .i64)) m.2.2.1, .sl (.sl (.int .i64)) m.2.2.2]), (3, .box 25 [.cv (.slice none 0 0)])] ?_
 refine AW.have1 (fun b1 : (List Int) => spec_machine_reached_k1 b1 = some r) (fun b1 => ⟨fr [(3, .bp 3 0)], hpGet [(3, .box 25 [.own 12]), (12, .arr 3 (.int .i64) b1)], gt⟩) (fun b1 h => ?_) (fun hk_spec_machine_reached_k1 => ?_)
 ·as_aux_lemma =>
   unfold spec_machine_reached_k1 at h
   refine zo ?_
   refine zS 1 [(3, .bp 3 0), (13, .own 12)] [(3, .box 25 [.own 12]), (12, .arr 3 (.int .i64) b1)] ?_
   obtain ⟨v0_2, hv1, h⟩ := Option.bind_eq_some_iff.1 h
   refine zC [] [(1000, 12)] (hc_slices_Sort b1 hv1) [(3, .bp 3 0)] [(3, .box 25 [.own 12]), (12, .arr 3 (.int .i64) v0_2)] ?_
   refine zB [(3, .bp 3 0)] [(3, .box 25 [.own 12]), (12, .arr 3 (.int .i64) v0_2)] ?_
   refine zo ?_
   refine zB [(2, .own 12)] [(12, .arr 3 (.int .i64) v0_2)] ?_
   refine AW.ret ?_
   obtain rfl := Option.some.inj h
   exact zR [] [] [(2000, 12)]
 ·refine AW.seq ?_
  refine zo ?_
  refine zS 1 [(3, .bp 3 0), (5, .agg [.int .i64 m.1, .int .i64 m.2.1, .sl (.sl (.int .i64)) m.2.2.1, .sl (.sl (.int .i64)) m.2.2.2])] [(3, .box 25 [.cv (.slice none 0 0)])] ?_
  obtain ⟨v0, hv2, h⟩ := Option.bind_eq_some_iff.1 h
  refine zC [] [] (hc_spec_machine_ways m hv2) [(3, .bp 3 0), (6, .fn (.func 98) [] [.bp 16000 0])] [(3, .box 25 [.cv (.slice none 0 0)]), (16000, .box 60 [.int .i64 m.1, .int .i64 m.2.1, .sl (.sl (.int .i64)) m.2.2.1, .sl (.sl (.int .i64)) m.2.2.2])] ?_
  refine zB [(3, .bp 3 0), (6, .fn (.func 98) [] [.bp 16000 0])] [(3, .box 25 [.cv (.slice none 0 0)]), (16000, .box 60 [.int .i64 m.1, .int .i64 m.2.1, .sl (.sl (.int .i64)) m.2.2.1, .sl (.sl (.int .i64)) m.2.2.2])] ?_
  refine AW.block ?_
  obtain ⟨x3, hx4, h⟩ := Option.bind_eq_some_iff.1 h
  refine AW.weaken (s' := ⟨fr [(3, .bp 3 0), (6, .fn (.func 98) [] [.bp 16000 0])], hpGet ([(16000, .box 60 [.int .i64 m.1, .int .i64 m.2.1, .sl (.sl (.int .i64)) m.2.2.1, .sl (.sl (.int .i64)) m.2.2.2])] ++ [(3, .box 25 [.own 12]), (12, .arr 3 (.int .i64) [])]), gt⟩) (zL [] [12] []) ?_
  refine AW.rangeF (R := Empty) (l0 := [(3, .bp 3 0)]) (hI := [(16000, .box 60 [.int .i64 m.1, .int .i64 m.2.1, .sl (.sl (.int .i64)) m.2.2.1, .sl (.sl (.int .i64)) m.2.2.2])]) (h0 := fun (st1 : (List Int)) => [(3, .box 25 [.own 12]), (12, .arr 3 (.int .i64) st1)]) (gg := fun (st1 : (List Int)) => gt) (hx0 := (fun (r : Empty) => r.elim)) (gx := (fun (r : Empty) => r.elim)) (ex := (fun (r : Empty) => r.elim)) [] [(16000, 1000)] [(1000, 16000)] [(3, 1900)] [(1900, 3)] (by decide) rfl (by first | exact (ic_spec_machine_ways_1 m (spec_machine_reached_y1) [] hx4) | simpa only [go_sem] using (ic_spec_machine_ways_1 m (spec_machine_reached_y1) [] hx4)) (by (simp only [go_sem]) <;> (with_reducible and_intros) <;> first | assumption | rfl | omega | (unfold maxLen; omega)) rfl rfl rfl (fun _ => rfl) rfl (fun r => r.elim) rfl (fun r => r.elim) (fun r => r.elim) (fun _ => rfl) (fun _ => rfl) rfl (fun _ _ => by first | rfl | (exact (hΓ _).trans (hΓ _).symm) | (exact (hΓx _).trans (hΓ _).symm)) (fun _ r => r.elim) ?_ ?_
  ·intro lpy1 y1 st1 x5 h
   unfold spec_machine_reached_y1 at h
   refine zV [(3, .bp 1900 0), (7, .int .i64 y1.1), (8, .sl (.int .i64) y1.2)] [(12, .arr 3 (.int .i64) st1), (1900, .box 25 [.own 12])] gt ?_
   refine AW.ops ?_
   refine zA [(3, .bp 1900 0), (4, .int .i64 y1.1)] [(12, .arr 3 (.int .i64) st1), (1900, .box 25 [.own 12])] ?_
   refine And.intro rfl ?_
   refine AW.block ?_
   refine AW.ops ?_
   obtain ⟨c6, h⟩ := ck_some.1 h
   refine zA [(3, .bp 1900 0)] [(12, .arr 3 (.int .i64) (st1 ++ [y1.1])), (1900, .box 25 [.own 12])] ?_
   refine ablock_n ?_
   obtain rfl := Option.some.inj h
   exact rpost_next rfl [] [] [] rfl (by (simp only [go_sem]) <;> (with_reducible and_intros) <;> first | assumption | rfl | omega | (unfold maxLen; omega))
  ·cases x3 with
   | inl st1_2 =>
    try simp only at h
    refine ablock_n ?_
    refine athen_n ?_
    exact AW.weaken (zL [] [] []) (hk_spec_machine_reached_k1 _ h)
   | inr rx =>
    exact rx.elim

theorem hc_spec_Reached (s : Int × Int × (List (List Int)) × (List (List Int))) {r : (List Int) × Int} (h : spec_Reached s = some r) : HC Try.prog 31 [] [.agg [.int .i64 s.1, .int .i64 s.2.1, .sl (.sl (.int .i64)) s.2.2.1, .sl (.sl (.int .i64)) s.2.2.2]] [(2000, .arr 3 (.int .i64) r.1)] (.tup [.own 2000, .int .i64 r.2]) := by
 unfold spec_Reached at h
 refine zH Try.func31 [.tmp 2, .tmp 3] 16 ?_
 refine zo ?_
 refine zB [(1, .bp 1 0)] [(1, .box 24 [.int .i64 s.1, .int .i64 s.2.1, .sl (.sl (.int .i64)) s.2.2.1, .sl (.sl (.int .i64)) s.2.2.2])] ?_
 refine zo ?_
 refine zS 1 [(7, .agg [.int .i64 s.1, .int .i64 s.2.1, .sl (.sl (.int .i64)) s.2.2.1, .sl (.sl (.int .i64)) s.2.2.2])] [] ?_
 obtain ⟨v0, hv1, h⟩ := Option.bind_eq_some_iff.1 h
 refine zC [] [] (hc_spec_checked s [] hv1) [(8, .tup [.agg [.int .i64 v0.1, .int .i64 v0.2.1, .sl (.sl (.int .i64)) v0.2.2.1, .sl (.sl (.int .i64)) v0.2.2.2.1], .int .i64 v0.2.2.2.2])] [] ?_
 refine zS 5 [(4, .bp 4 0), (10, .int .i64 v0.2.2.2.2)] [(4, .box 60 [.int .i64 v0.1, .int .i64 v0.2.1, .sl (.sl (.int .i64)) v0.2.2.1, .sl (.sl (.int .i64)) v0.2.2.2.1])] ?_
 refine zB [(4, .bp 4 0), (5, .int .i64 v0.2.2.2.2)] [(4, .box 60 [.int .i64 v0.1, .int .i64 v0.2.1, .sl (.sl (.int .i64)) v0.2.2.1, .sl (.sl (.int .i64)) v0.2.2.2.1])] ?_
 refine AW.seq ?_
 refine zo ?_
 refine zB [(4, .bp 4 0), (5, .int .i64 v0.2.2.2.2), (12, .bool (!(decide (v0.2.2.2.2 = 0))))] [(4, .box 60 [.int .i64 v0.1, .int .i64 v0.2.1, .sl (.sl (.int .i64)) v0.2.2.1, .sl (.sl (.int .i64)) v0.2.2.2.1])] ?_
 refine zQ h (fun hb2 h => ?_) (fun hb2 h => ?_)
 ·refine zo ?_
  refine zB [(2, .cv (.slice none 0 0)), (3, .int .i64 v0.2.2.2.2)] [] ?_
  refine zr ?_
  obtain rfl := Option.some.inj h
  exact zR [] [2000] []
 ·refine zk ?_
  refine zo ?_
  refine zS 1 [(14, .agg [.int .i64 v0.1, .int .i64 v0.2.1, .sl (.sl (.int .i64)) v0.2.2.1, .sl (.sl (.int .i64)) v0.2.2.2.1])] [] ?_
  obtain ⟨v0_2, hv3, h⟩ := Option.bind_eq_some_iff.1 h
  refine zC [] [] (hc_spec_machine_reached (v0.1, v0.2.1, v0.2.2.1, v0.2.2.2.1) hv3) [(15, .own 25000)] [(25000, .arr 3 (.int .i64) v0_2)] ?_
  refine zB [(2, .own 25000), (3, .int .i64 0)] [(25000, .arr 3 (.int .i64) v0_2)] ?_
  refine AW.ret ?_
  obtain rfl := Option.some.inj h
  exact zR [] [] [(2000, 25000)]

theorem hc_slices_Index (s : List Int) (v0 : Int) {r : Int} (h : slices_Index s v0 = some r) : HC Try.prog 78 [] [.sl (.int .i64) s, .int .i64 v0] [] (.int .i64 r) := by
 unfold slices_Index at h
 refine zH Try.func78 [.tmp 4] 19 ?_
 refine zo ?_
 refine zB [(0, .sl (.int .i64) s), (1, .int .i64 v0)] [] ?_
 refine AW.have1 (fun _ : Unit => slices_Index_k1 = some r) (fun _ => ⟨fr [], hpGet [], gt⟩) (fun _ h => ?_) (fun hk_slices_Index_k1 => ?_)
 ·as_aux_lemma =>
   unfold slices_Index_k1 at h
   refine zo ?_
   refine zB [(4, .int .i64 (-1))] [] ?_
   refine AW.ret ?_
   obtain rfl := Option.some.inj h
   exact zR [] [] []
 ·refine AW.seq ?_
  refine zo ?_
  refine zB [(0, .sl (.int .i64) s), (1, .int .i64 v0), (7, .int .i64 (s.length : Int)), (8, .int .i64 0)] [] ?_
  refine AW.block ?_
  obtain ⟨rv5, hw1, ho2⟩ := Option.bind_eq_some_iff.1 h
  refine AW.loopO (slices_Index_b1 s v0) (fun st1 => ⟨fr [(0, .sl (.int .i64) s), (1, .int .i64 v0), (7, .int .i64 (s.length : Int)), (8, .int .i64 st1)], hpGet [], gt⟩) 0 hw1 (zL [] [] []) ?_
  as_aux_lemma =>
   intro st1 x4 h hd3
   unfold slices_Index_b1 at h
   refine zo ?_
   refine zB [(0, .sl (.int .i64) s), (1, .int .i64 v0), (7, .int .i64 (s.length : Int)), (8, .int .i64 st1), (9, .bool (decide (st1 < (s.length : Int))))] [] ?_
   refine AW.seq ?_
   refine zQ h (fun hb6 h => ?_) (fun hb6 h => ?_)
   ·refine zk ?_
    refine AW.seq ?_
    refine AW.block ?_
    refine zo ?_
    refine zB [(0, .sl (.int .i64) s), (1, .int .i64 v0), (5, .int .i64 st1), (7, .int .i64 (s.length : Int)), (8, .int .i64 st1)] [] ?_
    refine zo ?_
    obtain ⟨c7, h⟩ := ck_some.1 h
    obtain ⟨c8, h⟩ := ck_some.1 h
    refine zS 5 [(0, .sl (.int .i64) s), (1, .int .i64 v0), (5, .int .i64 st1), (7, .int .i64 (s.length : Int)), (8, .int .i64 st1), (11, .int .i64 v0), (15, .int .i64 (s.getD st1.toNat 0))] [] ?_
    refine zB [(0, .sl (.int .i64) s), (1, .int .i64 v0), (5, .int .i64 st1), (7, .int .i64 (s.length : Int)), (8, .int .i64 st1), (16, .bool (decide (v0 = (s.getD st1.toNat 0))))] [] ?_
    refine zQ h (fun hb9 h => ?_) (fun hb9 h => ?_)
    ·refine zo ?_
     refine zB [(4, .int .i64 st1)] [] ?_
     refine AW.ret ?_
     refine ablock_r ?_
     refine athen_r ?_
     obtain rfl := Option.some.inj h
     rw [← hd3 _ rfl] at ho2
     have h := ho2
     try simp only at h
     refine athen_r ?_
     refine ablock_r ?_
     refine athen_r ?_
     obtain rfl := Option.some.inj h
     exact zR [] [] []
    ·refine zm ?_
     refine athen_n ?_
     refine AW.ops ?_
     obtain ⟨c10, h⟩ := ck_some.1 h
     refine zA [(0, .sl (.int .i64) s), (1, .int .i64 v0), (7, .int .i64 (s.length : Int)), (8, .int .i64 (st1 + 1))] [] ?_
     obtain rfl := Option.some.inj h
     exact ⟨_, rfl, zL [] [] []⟩
   ·refine AW.exit ?_
    refine athen_e ?_
    obtain rfl := Option.some.inj h
    rw [← hd3 _ rfl] at ho2
    have h := ho2
    try simp only at h
    refine athen_e ?_
    refine ablock_s ?_
    refine athen_n ?_
    exact AW.weaken (zL [] [] []) (hk_slices_Index_k1 () h)

theorem hc_slices_Contains (s : List Int) (v0 : Int) {r : Bool} (h : slices_Contains s v0 = some r) : HC Try.prog 77 [] [.sl (.int .i64) s, .int .i64 v0] [] (.bool r) := by
 unfold slices_Contains at h
 refine zH Try.func77 [.tmp 4] 9 ?_
 refine zo ?_
 refine zB [(0, .sl (.int .i64) s), (1, .int .i64 v0)] [] ?_
 refine zo ?_
 refine zS 2 [(5, .sl (.int .i64) s), (6, .int .i64 v0)] [] ?_
 obtain ⟨v0_2, hv1, h⟩ := Option.bind_eq_some_iff.1 h
 refine zC [] [] (hc_slices_Index s v0 hv1) [(7, .int .i64 v0_2)] [] ?_
 refine zB [(4, .bool (decide (0 ≤ v0_2)))] [] ?_
 refine AW.ret ?_
 obtain rfl := Option.some.inj h
 exact zR [] [] []

end Go.Proofs.Ytcgflignbhmoaaa
