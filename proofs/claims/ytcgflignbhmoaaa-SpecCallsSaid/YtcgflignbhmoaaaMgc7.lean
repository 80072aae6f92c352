/-
  Made by wip/tool/dc.py out of the print of the program: contracts.
-/
import Derived.Test.YtcgflignbhmoaaaQp
import Derived.Test.YtcgflignbhmoaaaShs
import Derived.Test.YtcgflignbhmoaaaAvd
import Derived.Test.YtcgflignbhmoaaaBl
import Derived.Test.YtcgflignbhmoaaaMgc2
import Derived.Test.YtcgflignbhmoaaaMgc5
import Derived.Test.YtcgflignbhmoaaaMgc6
namespace Go.Proofs.Ytcgflignbhmoaaa
open Go.RowKit

set_option linter.unusedSimpArgs false
set_option linter.unusedVariables false
set_option linter.constructorNameAsVariable false

set_option maxRecDepth 100000
set_option maxHeartbeats 2000000

theorem hc_slices_insertionSortOrdered (a : Int) (b : Int) (data : List Int) {r : (List Int)} (h : slices_insertionSortOrdered a b data = some r) : HC Try.prog 103 [(1000, .arr 3 (.int .i64) data)] [.own 1000, .int .i64 a, .int .i64 b] [(1000, .arr 3 (.int .i64) r)] (.tup []) := by
 unfold slices_insertionSortOrdered at h
 refine zH Try.func103 [] 49 ?_
 refine zo ?_
 obtain ⟨c1, h⟩ := ck_some.1 h
 refine zB [(0, .own 1000), (1, .int .i64 a), (2, .int .i64 b), (6, .int .i64 (a + 1))] [(1000, .arr 3 (.int .i64) data)] ?_
 refine AW.block ?_
 obtain ⟨rv6, hw2, ho3⟩ := Option.bind_eq_some_iff.1 h
 refine AW.loopO (slices_insertionSortOrdered_b1 a b) (fun st1 => ⟨fr [(0, .own 1000), (1, .int .i64 a), (2, .int .i64 b), (6, .int .i64 st1.2)], hpGet [(1000, .arr 3 (.int .i64) st1.1)], gt⟩) (data, (a + 1)) hw2 (zL [] [] []) ?_
 as_aux_lemma =>
  intro st1 x5 h hd4
  unfold slices_insertionSortOrdered_b1 at h
  refine AW.seq ?_
  refine zo ?_
  refine zB [(0, .own 1000), (1, .int .i64 a), (2, .int .i64 b), (6, .int .i64 st1.2), (12, .bool (decide (st1.2 < b)))] [(1000, .arr 3 (.int .i64) st1.1)] ?_
  refine zQ h (fun hb7 h => ?_) (fun hb7 h => ?_)
  ·refine zk ?_
   refine AW.have1 (fun b1 : (List Int) => slices_insertionSortOrdered_k1 st1 b1 = some x5) (fun b1 => ⟨fr [(0, .own 1000), (1, .int .i64 a), (2, .int .i64 b), (6, .int .i64 st1.2)], hpGet [(1000, .arr 3 (.int .i64) b1)], gt⟩) (fun b1 h => ?_) (fun hk_slices_insertionSortOrdered_k1 => ?_)
   ·as_aux_lemma =>
     unfold slices_insertionSortOrdered_k1 at h
     refine AW.ops ?_
     obtain ⟨c8, h⟩ := ck_some.1 h
     refine zA [(0, .own 1000), (1, .int .i64 a), (2, .int .i64 b), (6, .int .i64 (st1.2 + 1))] [(1000, .arr 3 (.int .i64) b1)] ?_
     obtain rfl := Option.some.inj h
     exact ⟨_, rfl, zL [] [] []⟩
   ·refine AW.seq ?_
    refine AW.block ?_
    refine zo ?_
    refine zB [(0, .own 1000), (1, .int .i64 a), (2, .int .i64 b), (6, .int .i64 st1.2), (7, .int .i64 st1.2)] [(1000, .arr 3 (.int .i64) st1.1)] ?_
    refine AW.block ?_
    obtain ⟨rv13, hw9, ho10⟩ := Option.bind_eq_some_iff.1 h
    refine AW.loopO (slices_insertionSortOrdered_b2 a) (fun st2 => ⟨fr [(0, .own 1000), (1, .int .i64 a), (2, .int .i64 b), (6, .int .i64 st1.2), (7, .int .i64 st2.2)], hpGet [(1000, .arr 3 (.int .i64) st2.1)], gt⟩) st1 hw9 (zL [] [] []) ?_
    as_aux_lemma =>
     intro st2 x12 h hd11
     unfold slices_insertionSortOrdered_b2 at h
     refine AW.seq ?_
     refine AW.seq ?_
     refine AW.draw tab_ok mixed_ok [] [] (by decide) (lex_fast (by kernel_rfl)) ?_
     as_aux_lemma =>
      refine adops_cut 4 (fun K' hK14 => ?_)
      try dsimp only [List.drop_succ_cons, List.drop_zero, List.take_succ_cons, List.take_zero]
      simp only [go_sem, hb7]
      repeat with_reducible refine zN ?_
      refine hK14 _ ?_
      as_aux_lemma =>
       rcases zI h with ⟨hb15, h⟩ | ⟨hb15, h⟩
       ·simp only [hb15]
        as_aux_lemma =>
         obtain ⟨c17, h⟩ := ck_some.1 h
         obtain ⟨c18, h⟩ := ck_some.1 h
         refine adops_cut 6 (fun K' hK16 => ?_)
         try dsimp only [List.drop_succ_cons, List.drop_zero, List.take_succ_cons, List.take_zero]
         simp only [go_sem, hb7, hb15]
         repeat with_reducible refine zN ?_
         refine hK16 _ ?_
         as_aux_lemma =>
          obtain ⟨c20, h⟩ := ck_some.1 h
          obtain ⟨c21, h⟩ := ck_some.1 h
          obtain ⟨c22, h⟩ := ck_some.1 h
          refine adops_cut 3 (fun K' hK19 => ?_)
          try dsimp only [List.drop_succ_cons, List.drop_zero, List.take_succ_cons, List.take_zero]
          simp only [go_sem, hb7, hb15]
          repeat with_reducible refine zN ?_
          refine hK19 _ ?_
          as_aux_lemma =>
           obtain ⟨v0, hv23, h⟩ := Option.bind_eq_some_iff.1 h
           refine adops.call (by first | trivial | rfl) rfl rfl rfl (fun _ h => ⟨fun _ => h, fun hn => absurd rfl hn⟩) [] [] (hc_cmp_Less (st2.1.getD st2.2.toNat 0) (st2.1.getD (st2.2 - 1).toNat 0) hv23) rfl (by (simp only [go_sem, hb7, hb15]) <;> (with_reducible and_intros) <;> first | assumption | rfl | omega | (unfold maxLen; omega)) (by (simp only [go_sem, hb7, hb15]) <;> (with_reducible and_intros) <;> first | assumption | rfl | omega | (unfold maxLen; omega)) rfl ?_
           refine adops_cut 1 (fun K' hK24 => ?_)
           try dsimp only [List.drop_succ_cons, List.drop_zero, List.take_succ_cons, List.take_zero]
           simp only [go_sem, hb7, hb15]
           repeat with_reducible refine zN ?_
           refine hK24 _ ?_
           refine adops_nil ?_
           refine athen_n ?_
           refine zV [(0, .own 1000), (1, .int .i64 a), (2, .int .i64 b), (6, .int .i64 st1.2), (7, .int .i64 st2.2), (30, .bool (decide ((st2.1.getD st2.2.toNat 0) < (st2.1.getD (st2.2 - 1).toNat 0))))] [(1000, .arr 3 (.int .i64) st2.1)] gt ?_
           as_aux_lemma =>
            refine zQ h (fun hb25 h => ?_) (fun hb25 h => ?_)
            ·refine zk ?_
             refine AW.seq ?_
             refine AW.block ?_
             refine AW.draw tab_ok mixed_ok [(15, [1000]), (17, [1000])] [(2, [1000]), (3, []), (4, []), (100015, []), (100017, [])] (by decide) (lex_fast (by kernel_rfl)) ?_
             as_aux_lemma =>
              obtain ⟨c27, h⟩ := ck_some.1 h
              refine adops_cut 6 (fun K' hK26 => ?_)
              try dsimp only [List.drop_succ_cons, List.drop_zero, List.take_succ_cons, List.take_zero]
              simp only [go_sem, hb7, hb15, hb25]
              repeat with_reducible refine zN ?_
              refine hK26 _ ?_
              as_aux_lemma =>
               obtain ⟨c29, h⟩ := ck_some.1 h
               obtain ⟨c30, h⟩ := ck_some.1 h
               obtain ⟨c31, h⟩ := ck_some.1 h
               refine adops_cut 6 (fun K' hK28 => ?_)
               try dsimp only [List.drop_succ_cons, List.drop_zero, List.take_succ_cons, List.take_zero]
               simp only [go_sem, hb7, hb15, hb25]
               repeat with_reducible refine zN ?_
               refine hK28 _ ?_
               as_aux_lemma =>
                obtain ⟨c33, h⟩ := ck_some.1 h
                obtain ⟨c34, h⟩ := ck_some.1 h
                obtain ⟨c35, h⟩ := ck_some.1 h
                obtain ⟨c36, h⟩ := ck_some.1 h
                obtain ⟨c37, h⟩ := ck_some.1 h
                obtain ⟨c38, h⟩ := ck_some.1 h
                refine adops_cut 6 (fun K' hK32 => ?_)
                try dsimp only [List.drop_succ_cons, List.drop_zero, List.take_succ_cons, List.take_zero]
                simp only [go_sem, hb7, hb15, hb25]
                repeat with_reducible refine zN ?_
                refine hK32 _ ?_
                refine adops_nil ?_
                refine ablock_n ?_
                refine athen_n ?_
                refine zV [(0, .own 1000), (1, .int .i64 a), (2, .int .i64 b), (6, .int .i64 st1.2), (7, .int .i64 st2.2)] [(1000, .arr 3 (.int .i64) ((st2.1.set st2.2.toNat (st2.1.getD (st2.2 - 1).toNat 0)).set (st2.2 - 1).toNat (st2.1.getD st2.2.toNat 0)))] gt ?_
                as_aux_lemma =>
                 refine AW.ops ?_
                 obtain ⟨c39, h⟩ := ck_some.1 h
                 refine zA [(0, .own 1000), (1, .int .i64 a), (2, .int .i64 b), (6, .int .i64 st1.2), (7, .int .i64 (st2.2 - 1))] [(1000, .arr 3 (.int .i64) ((st2.1.set st2.2.toNat (st2.1.getD (st2.2 - 1).toNat 0)).set (st2.2 - 1).toNat (st2.1.getD st2.2.toNat 0)))] ?_
                 obtain rfl := Option.some.inj h
                 exact ⟨_, rfl, zL [] [] []⟩
            ·refine AW.exit ?_
             refine athen_e ?_
             obtain rfl := Option.some.inj h
             rw [← hd11 _ rfl] at ho10
             have h := ho10
             refine athen_e ?_
             refine ablock_s ?_
             refine ablock_n ?_
             refine athen_n ?_
             exact AW.weaken (zL [] [] []) (hk_slices_insertionSortOrdered_k1 _ h)
       ·simp only [hb15]
        as_aux_lemma =>
         refine adops_cut 4 (fun K' hK40 => ?_)
         try dsimp only [List.drop_succ_cons, List.drop_zero, List.take_succ_cons, List.take_zero]
         simp only [go_sem, hb7, hb15]
         repeat with_reducible refine zN ?_
         refine hK40 _ ?_
         as_aux_lemma =>
          refine adops_cut 4 (fun K' hK41 => ?_)
          try dsimp only [List.drop_succ_cons, List.drop_zero, List.take_succ_cons, List.take_zero]
          simp only [go_sem, hb7, hb15]
          repeat with_reducible refine zN ?_
          refine hK41 _ ?_
          as_aux_lemma =>
           refine adops_cut 3 (fun K' hK42 => ?_)
           try dsimp only [List.drop_succ_cons, List.drop_zero, List.take_succ_cons, List.take_zero]
           simp only [go_sem, hb7, hb15]
           repeat with_reducible refine zN ?_
           refine hK42 _ ?_
           refine adops_nil ?_
           refine athen_n ?_
           refine zV [(0, .own 1000), (1, .int .i64 a), (2, .int .i64 b), (6, .int .i64 st1.2), (7, .int .i64 st2.2), (30, .bool false)] [(1000, .arr 3 (.int .i64) st2.1)] gt ?_
           as_aux_lemma =>
            refine AW.cond (b := false) rfl (fun hb43 => by cases hb43) (fun _ => ?_)
            refine AW.exit ?_
            refine athen_e ?_
            obtain rfl := Option.some.inj h
            rw [← hd11 _ rfl] at ho10
            have h := ho10
            refine athen_e ?_
            refine ablock_s ?_
            refine ablock_n ?_
            refine athen_n ?_
            exact AW.weaken (zL [] [] []) (hk_slices_insertionSortOrdered_k1 _ h)
  ·refine AW.exit ?_
   refine athen_e ?_
   obtain rfl := Option.some.inj h
   rw [← hd4 _ rfl] at ho3
   have h := ho3
   refine athen_e ?_
   refine ablock_s ?_
   obtain rfl := Option.some.inj h
   exact zR [] [] []

theorem hc_slices_pdqsortOrdered (a : Int) (b : Int) (limit : Int) (data : List Int) {r : (List Int)} (h : slices_pdqsortOrdered a b limit data = some r) : HC Try.prog 101 [(1000, .arr 3 (.int .i64) data)] [.own 1000, .int .i64 a, .int .i64 b, .int .i64 limit] [(1000, .arr 3 (.int .i64) r)] (.tup []) := by
 unfold slices_pdqsortOrdered at h
 refine zH Try.func101 [] 134 ?_
 refine zo ?_
 refine zB [(0, .own 1000), (1, .int .i64 a), (2, .int .i64 b), (3, .int .i64 limit), (8, .bool true)] [(1000, .arr 3 (.int .i64) data)] ?_
 refine zo ?_
 refine zB [(0, .own 1000), (1, .int .i64 a), (2, .int .i64 b), (3, .int .i64 limit), (8, .bool true), (9, .bool true)] [(1000, .arr 3 (.int .i64) data)] ?_
 refine AW.block ?_
 obtain ⟨rv5, hw1, ho2⟩ := Option.bind_eq_some_iff.1 h
 refine AW.loopO (slices_pdqsortOrdered_b1 a b limit data) (fun st1 => ⟨fr [(0, .own 1000), (1, .int .i64 a), (2, .int .i64 b), (3, .int .i64 limit), (8, .bool true), (9, .bool true)], hpGet [(1000, .arr 3 (.int .i64) data)], gt⟩) () hw1 (zL [] [] []) ?_
 as_aux_lemma =>
  intro st1 x4 h hd3
  unfold slices_pdqsortOrdered_b1 at h
  refine AW.block ?_
  refine zo ?_
  obtain ⟨c6, h⟩ := ck_some.1 h
  refine zB [(0, .own 1000), (1, .int .i64 a), (2, .int .i64 b), (3, .int .i64 limit), (8, .bool true), (9, .bool true), (10, .int .i64 (b - a))] [(1000, .arr 3 (.int .i64) data)] ?_
  refine AW.seq ?_
  refine zo ?_
  refine zB [(0, .own 1000), (1, .int .i64 a), (2, .int .i64 b), (3, .int .i64 limit), (8, .bool true), (9, .bool true), (10, .int .i64 (b - a)), (23, .bool (decide ((b - a) ≤ 12)))] [(1000, .arr 3 (.int .i64) data)] ?_
  refine zQ h (fun hb7 h => ?_) (fun hb7 h => ?_)
  ·refine zo ?_
   refine zS 3 [(24, .own 1000), (25, .int .i64 a), (26, .int .i64 b)] [(1000, .arr 3 (.int .i64) data)] ?_
   obtain ⟨v0, hv8, h⟩ := Option.bind_eq_some_iff.1 h
   refine zC [] [(1000, 1000)] (hc_slices_insertionSortOrdered a b data hv8) [] [(1000, .arr 3 (.int .i64) v0)] ?_
   refine zB [] [(1000, .arr 3 (.int .i64) v0)] ?_
   refine zr ?_
   refine ablock_r ?_
   obtain rfl := Option.some.inj h
   rw [← hd3 _ rfl] at ho2
   have h := ho2
   refine athen_r ?_
   refine ablock_r ?_
   obtain rfl := Option.some.inj h
   exact zR [] [] []
  ·refine zk ?_
   refine AW.seq ?_
   refine zo ?_
   refine zB [(0, .own 1000), (1, .int .i64 a), (2, .int .i64 b), (3, .int .i64 limit), (8, .bool true), (9, .bool true), (10, .int .i64 (b - a)), (29, .bool (decide (limit = 0)))] [(1000, .arr 3 (.int .i64) data)] ?_
   refine zQ h (fun hb9 h => ?_) (fun hb9 h => ?_)
   ·refine zo ?_
    cases h
   ·refine zk ?_
    refine AW.seq ?_
    refine zo ?_
    refine zB [(0, .own 1000), (1, .int .i64 a), (2, .int .i64 b), (3, .int .i64 limit), (8, .bool true), (9, .bool true), (10, .int .i64 (b - a)), (35, .bool false)] [(1000, .arr 3 (.int .i64) data)] ?_
    refine AW.cond (b := false) rfl (fun hb10 => by cases hb10) (fun _ => ?_)
    refine zk ?_
    refine zo ?_
    cases h

theorem hc_slices_Sort (x0 : List Int) {r : (List Int)} (h : slices_Sort x0 = some r) : HC Try.prog 97 [(1000, .arr 3 (.int .i64) x0)] [.own 1000] [(1000, .arr 3 (.int .i64) r)] (.tup []) := by
 unfold slices_Sort at h
 refine zH Try.func97 [] 11 ?_
 refine zo ?_
 refine zB [(0, .own 1000), (2, .int .i64 (x0.length : Int))] [(1000, .arr 3 (.int .i64) x0)] ?_
 refine AW.ops ?_
 obtain ⟨c1, h⟩ := ck_some.1 h
 refine zS 4 [(5, .own 1000), (6, .int .i64 (x0.length : Int)), (8, .int .u64 (x0.length : Int))] [(1000, .arr 3 (.int .i64) x0)] ?_
 obtain ⟨v0, hv2, h⟩ := Option.bind_eq_some_iff.1 h
 refine zC [] [] (hc_math_bits_Len (x0.length : Int) hv2) [(5, .own 1000), (6, .int .i64 (x0.length : Int)), (9, .int .i64 v0)] [(1000, .arr 3 (.int .i64) x0)] ?_
 obtain ⟨v0_2, hv3, h⟩ := Option.bind_eq_some_iff.1 h
 refine zC [] [(1000, 1000)] (hc_slices_pdqsortOrdered 0 (x0.length : Int) v0 x0 hv3) [] [(1000, .arr 3 (.int .i64) v0_2)] ?_
 refine zA [] [(1000, .arr 3 (.int .i64) v0_2)] ?_
 obtain rfl := Option.some.inj h
 exact zR [] [] []

theorem hc_spec_machine_reached (m : Int × Int × (List (List Int)) × (List (List Int))) {r : (List Int)} (h : spec_machine_reached m = some r) : HC Try.prog 73 [] [.agg [.int .i64 m.1, .int .i64 m.2.1, .sl (.sl (.int .i64)) m.2.2.1, .sl (.sl (.int .i64)) m.2.2.2]] [(2000, .arr 3 (.int .i64) r)] (.own 2000) := by
 unfold spec_machine_reached at h
 refine zH Try.func73 [.tmp 2] 16 ?_
 refine zo ?_
 refine zB [(1, .bp 1 0)] [(1, .box 60 [.int .i64 m.1, .int .i64 m.2.1, .sl (.sl (.int .i64)) m.2.2.1, .sl (.sl (.int .i64)) m.2.2.2])] ?_
 refine zo ?_
 refine zB [(1, .bp 1 0), (3, .bp 3 0)] [(1, .box 60 [.int .i64 m.1, .int .i64 m.2.1, .sl (.sl (.int .i64)) m.2.2.1, .sl (.sl (.int .i64)) m.2.2.2]), (3, .box 25 [.cv (.slice none 0 0)])] ?_
 refine AW.have1 (fun b1 : (List Int) => spec_machine_reached_k1 b1 = some r) (fun b1 => ⟨fr [(3, .bp 3 0)], hpGet [(3, .box 25 [.own 12]), (12, .arr 3 (.int .i64) b1)], gt⟩) (fun b1 h => ?_) (fun hk_spec_machine_reached_k1 => ?_)
 ·as_aux_lemma =>
   unfold spec_machine_reached_k1 at h
   refine zo ?_
   refine zS 1 [(3, .bp 3 0), (13, .own 12)] [(3, .box 25 [.own 12]), (12, .arr 3 (.int .i64) b1)] ?_
   obtain ⟨v0_2, hv1, h⟩ := Option.bind_eq_some_iff.1 h
   refine zC [] [(1000, 12)] (hc_slices_Sort b1 hv1) [(3, .bp 3 0)] [(3, .box 25 [.own 12]), (12, .arr 3 (.int .i64) v0_2)] ?_
   refine zB [(3, .bp 3 0)] [(3, .box 25 [.own 12]), (12, .arr 3 (.int .i64) v0_2)] ?_
   refine zo ?_
   refine zB [(2, .own 12)] [(12, .arr 3 (.int .i64) v0_2)] ?_
   refine AW.ret ?_
   obtain rfl := Option.some.inj h
   exact zR [] [] [(2000, 12)]
 ·refine AW.seq ?_
  refine zo ?_
  refine zS 1 [(3, .bp 3 0), (5, .agg [.int .i64 m.1, .int .i64 m.2.1, .sl (.sl (.int .i64)) m.2.2.1, .sl (.sl (.int .i64)) m.2.2.2])] [(3, .box 25 [.cv (.slice none 0 0)])] ?_
  obtain ⟨v0, hv2, h⟩ := Option.bind_eq_some_iff.1 h
  refine zC [] [] (hc_spec_machine_ways m hv2) [(3, .bp 3 0), (6, .fn (.func 98) [] [.bp 16000 0])] [(3, .box 25 [.cv (.slice none 0 0)]), (16000, .box 60 [.int .i64 m.1, .int .i64 m.2.1, .sl (.sl (.int .i64)) m.2.2.1, .sl (.sl (.int .i64)) m.2.2.2])] ?_
  refine zB [(3, .bp 3 0), (6, .fn (.func 98) [] [.bp 16000 0])] [(3, .box 25 [.cv (.slice none 0 0)]), (16000, .box 60 [.int .i64 m.1, .int .i64 m.2.1, .sl (.sl (.int .i64)) m.2.2.1, .sl (.sl (.int .i64)) m.2.2.2])] ?_
  refine AW.block ?_
  obtain ⟨x3, hx4, h⟩ := Option.bind_eq_some_iff.1 h
  refine AW.weaken (s' := ⟨fr [(3, .bp 3 0), (6, .fn (.func 98) [] [.bp 16000 0])], hpGet ([(16000, .box 60 [.int .i64 m.1, .int .i64 m.2.1, .sl (.sl (.int .i64)) m.2.2.1, .sl (.sl (.int .i64)) m.2.2.2])] ++ [(3, .box 25 [.own 12]), (12, .arr 3 (.int .i64) [])]), gt⟩) (zL [] [12] []) ?_
  refine AW.rangeF (R := Empty) (l0 := [(3, .bp 3 0)]) (hI := [(16000, .box 60 [.int .i64 m.1, .int .i64 m.2.1, .sl (.sl (.int .i64)) m.2.2.1, .sl (.sl (.int .i64)) m.2.2.2])]) (h0 := fun (st1 : (List Int)) => [(3, .box 25 [.own 12]), (12, .arr 3 (.int .i64) st1)]) (gg := fun (st1 : (List Int)) => gt) (hx0 := (fun (r : Empty) => r.elim)) (gx := (fun (r : Empty) => r.elim)) (ex := (fun (r : Empty) => r.elim)) [] [(16000, 1000)] [(1000, 16000)] [(3, 1900)] [(1900, 3)] (by decide) rfl (by first | exact (ic_spec_machine_ways_1 m (spec_machine_reached_y1) [] hx4) | simpa only [go_sem] using (ic_spec_machine_ways_1 m (spec_machine_reached_y1) [] hx4)) (by (simp only [go_sem]) <;> (with_reducible and_intros) <;> first | assumption | rfl | omega | (unfold maxLen; omega)) rfl rfl rfl (fun _ => rfl) rfl (fun r => r.elim) rfl (fun r => r.elim) (fun r => r.elim) (fun _ => rfl) (fun _ => rfl) rfl (fun _ _ => by first | rfl | (exact (hΓ _).trans (hΓ _).symm) | (exact (hΓx _).trans (hΓ _).symm)) (fun _ r => r.elim) ?_ ?_
  ·intro lpy1 y1 st1 x5 h
   unfold spec_machine_reached_y1 at h
   refine zV [(3, .bp 1900 0), (7, .int .i64 y1.1), (8, .sl (.int .i64) y1.2)] [(12, .arr 3 (.int .i64) st1), (1900, .box 25 [.own 12])] gt ?_
   refine AW.ops ?_
   refine zA [(3, .bp 1900 0), (4, .int .i64 y1.1)] [(12, .arr 3 (.int .i64) st1), (1900, .box 25 [.own 12])] ?_
   refine And.intro rfl ?_
   refine AW.block ?_
   refine AW.ops ?_
   obtain ⟨c6, h⟩ := ck_some.1 h
   refine zA [(3, .bp 1900 0)] [(12, .arr 3 (.int .i64) (st1 ++ [y1.1])), (1900, .box 25 [.own 12])] ?_
   refine ablock_n ?_
   obtain rfl := Option.some.inj h
   exact rpost_next rfl [] [] [] rfl (by (simp only [go_sem]) <;> (with_reducible and_intros) <;> first | assumption | rfl | omega | (unfold maxLen; omega))
  ·cases x3 with
   | inl st1_2 =>
    try simp only at h
    refine ablock_n ?_
    refine athen_n ?_
    exact AW.weaken (zL [] [] []) (hk_spec_machine_reached_k1 _ h)
   | inr rx =>
    exact rx.elim

theorem hc_spec_machine_commute (m : Int × Int × (List (List Int)) × (List (List Int))) (state : Int) (a : Int) (b : Int) {r : Bool} (h : spec_machine_commute m state a b = some r) : HC Try.prog 85 [] [.agg [.int .i64 m.1, .int .i64 m.2.1, .sl (.sl (.int .i64)) m.2.2.1, .sl (.sl (.int .i64)) m.2.2.2], .int .i64 state, .int .i64 a, .int .i64 b] [] (.bool r) := by
 unfold spec_machine_commute at h
 refine zH Try.func85 [.tmp 8] 53 ?_
 refine zo ?_
 refine zB [(1, .int .i64 state), (2, .int .i64 a), (3, .int .i64 b), (4, .bp 4 0)] [(4, .box 60 [.int .i64 m.1, .int .i64 m.2.1, .sl (.sl (.int .i64)) m.2.2.1, .sl (.sl (.int .i64)) m.2.2.2])] ?_
 refine zo ?_
 refine zS 5 [(1, .int .i64 state), (2, .int .i64 a), (3, .int .i64 b), (4, .bp 4 0), (14, .agg [.int .i64 m.1, .int .i64 m.2.1, .sl (.sl (.int .i64)) m.2.2.1, .sl (.sl (.int .i64)) m.2.2.2]), (15, .int .i64 state), (18, .own 18)] [(4, .box 60 [.int .i64 m.1, .int .i64 m.2.1, .sl (.sl (.int .i64)) m.2.2.1, .sl (.sl (.int .i64)) m.2.2.2]), (18, .arr 3 (.int .i64) [a, b])] ?_
 obtain ⟨v0, hv1, h⟩ := Option.bind_eq_some_iff.1 h
 refine zC [18] [] (hc_spec_machine_run m state [a, b] hv1) [(1, .int .i64 state), (2, .int .i64 a), (3, .int .i64 b), (4, .bp 4 0), (19, .tup [.own 29000, .int .i64 v0.2])] [(4, .box 60 [.int .i64 m.1, .int .i64 m.2.1, .sl (.sl (.int .i64)) m.2.2.1, .sl (.sl (.int .i64)) m.2.2.2]), (29000, .arr 3 (.int .i64) v0.1)] ?_
 refine zB [(1, .int .i64 state), (2, .int .i64 a), (3, .int .i64 b), (4, .bp 4 0), (9, .own 29000), (10, .int .i64 v0.2)] [(4, .box 60 [.int .i64 m.1, .int .i64 m.2.1, .sl (.sl (.int .i64)) m.2.2.1, .sl (.sl (.int .i64)) m.2.2.2]), (29000, .arr 3 (.int .i64) v0.1)] ?_
 refine zo ?_
 refine zS 5 [(4, .bp 4 0), (9, .own 29000), (10, .int .i64 v0.2), (23, .agg [.int .i64 m.1, .int .i64 m.2.1, .sl (.sl (.int .i64)) m.2.2.1, .sl (.sl (.int .i64)) m.2.2.2]), (24, .int .i64 state), (27, .own 27)] [(4, .box 60 [.int .i64 m.1, .int .i64 m.2.1, .sl (.sl (.int .i64)) m.2.2.1, .sl (.sl (.int .i64)) m.2.2.2]), (27, .arr 3 (.int .i64) [b, a]), (29000, .arr 3 (.int .i64) v0.1)] ?_
 obtain ⟨v0_2, hv2, h⟩ := Option.bind_eq_some_iff.1 h
 refine zC [27] [] (hc_spec_machine_run m state [b, a] hv2) [(4, .bp 4 0), (9, .own 29000), (10, .int .i64 v0.2), (28, .tup [.own 38000, .int .i64 v0_2.2])] [(4, .box 60 [.int .i64 m.1, .int .i64 m.2.1, .sl (.sl (.int .i64)) m.2.2.1, .sl (.sl (.int .i64)) m.2.2.2]), (29000, .arr 3 (.int .i64) v0.1), (38000, .arr 3 (.int .i64) v0_2.1)] ?_
 refine zB [(4, .bp 4 0), (9, .own 29000), (10, .int .i64 v0.2), (11, .own 38000), (12, .int .i64 v0_2.2)] [(4, .box 60 [.int .i64 m.1, .int .i64 m.2.1, .sl (.sl (.int .i64)) m.2.2.1, .sl (.sl (.int .i64)) m.2.2.2]), (29000, .arr 3 (.int .i64) v0.1), (38000, .arr 3 (.int .i64) v0_2.1)] ?_
 refine AW.seq ?_
 refine AW.draw tab_ok mixed_ok [] [] (by decide) (lex_fast (by kernel_rfl)) ?_
 as_aux_lemma =>
  obtain ⟨c4, h⟩ := ck_some.1 h
  obtain ⟨c5, h⟩ := ck_some.1 h
  refine adops_cut 6 (fun K' hK3 => ?_)
  try dsimp only [List.drop_succ_cons, List.drop_zero, List.take_succ_cons, List.take_zero]
  simp only [go_sem]
  repeat with_reducible refine zN ?_
  refine hK3 _ ?_
  as_aux_lemma =>
   refine adops_cut 2 (fun K' hK6 => ?_)
   try dsimp only [List.drop_succ_cons, List.drop_zero, List.take_succ_cons, List.take_zero]
   simp only [go_sem]
   repeat with_reducible refine zN ?_
   refine hK6 _ ?_
   as_aux_lemma =>
    rcases zI h with ⟨hb7, h⟩ | ⟨hb7, h⟩
    ·simp only [hb7]
     as_aux_lemma =>
      obtain ⟨c9, h⟩ := ck_some.1 h
      obtain ⟨c10, h⟩ := ck_some.1 h
      refine adops_cut 6 (fun K' hK8 => ?_)
      try dsimp only [List.drop_succ_cons, List.drop_zero, List.take_succ_cons, List.take_zero]
      simp only [go_sem, hb7]
      repeat with_reducible refine zN ?_
      refine hK8 _ ?_
      as_aux_lemma =>
       refine adops_cut 3 (fun K' hK11 => ?_)
       try dsimp only [List.drop_succ_cons, List.drop_zero, List.take_succ_cons, List.take_zero]
       simp only [go_sem, hb7]
       repeat with_reducible refine zN ?_
       refine hK11 _ ?_
       as_aux_lemma =>
        rcases zI h with ⟨hb12, h⟩ | ⟨hb12, h⟩
        ·simp only [hb12]
         as_aux_lemma =>
          refine adops_cut 3 (fun K' hK13 => ?_)
          try dsimp only [List.drop_succ_cons, List.drop_zero, List.take_succ_cons, List.take_zero]
          simp only [go_sem, hb7, hb12]
          repeat with_reducible refine zN ?_
          refine hK13 _ ?_
          as_aux_lemma =>
           obtain ⟨v0_3, hv14, h⟩ := Option.bind_eq_some_iff.1 h
           refine adops.call (by first | trivial | rfl) rfl rfl rfl (fun _ h => ⟨fun _ => h, fun hn => absurd rfl hn⟩) [] [] (hc_spec_machine_same m v0.2 v0_2.2 hv14) rfl (by (simp only [go_sem, hb7, hb12]) <;> (with_reducible and_intros) <;> first | assumption | rfl | omega | (unfold maxLen; omega)) (by (simp only [go_sem, hb7, hb12]) <;> (with_reducible and_intros) <;> first | assumption | rfl | omega | (unfold maxLen; omega)) rfl ?_
           refine adops_cut 2 (fun K' hK15 => ?_)
           try dsimp only [List.drop_succ_cons, List.drop_zero, List.take_succ_cons, List.take_zero]
           simp only [go_sem, hb7, hb12]
           repeat with_reducible refine zN ?_
           refine hK15 _ ?_
           refine adops_nil ?_
           refine athen_n ?_
           refine zV [(8, .bool v0_3)] [] gt ?_
           as_aux_lemma =>
            refine AW.ret ?_
            obtain rfl := Option.some.inj h
            exact zR [] [] []
        ·simp only [hb12]
         as_aux_lemma =>
          refine adops_cut 4 (fun K' hK16 => ?_)
          try dsimp only [List.drop_succ_cons, List.drop_zero, List.take_succ_cons, List.take_zero]
          simp only [go_sem, hb7, hb12]
          repeat with_reducible refine zN ?_
          refine hK16 _ ?_
          as_aux_lemma =>
           refine adops_cut 2 (fun K' hK17 => ?_)
           try dsimp only [List.drop_succ_cons, List.drop_zero, List.take_succ_cons, List.take_zero]
           simp only [go_sem, hb7, hb12]
           repeat with_reducible refine zN ?_
           refine hK17 _ ?_
           refine adops_nil ?_
           refine athen_n ?_
           refine zV [(8, .bool false)] [] gt ?_
           as_aux_lemma =>
            refine AW.ret ?_
            obtain rfl := Option.some.inj h
            exact zR [] [] []
    ·simp only [hb7]
     as_aux_lemma =>
      refine adops_cut 4 (fun K' hK18 => ?_)
      try dsimp only [List.drop_succ_cons, List.drop_zero, List.take_succ_cons, List.take_zero]
      simp only [go_sem, hb7]
      repeat with_reducible refine zN ?_
      refine hK18 _ ?_
      as_aux_lemma =>
       refine adops_cut 6 (fun K' hK19 => ?_)
       try dsimp only [List.drop_succ_cons, List.drop_zero, List.take_succ_cons, List.take_zero]
       simp only [go_sem, hb7]
       repeat with_reducible refine zN ?_
       refine hK19 _ ?_
       as_aux_lemma =>
        refine adops_cut 5 (fun K' hK20 => ?_)
        try dsimp only [List.drop_succ_cons, List.drop_zero, List.take_succ_cons, List.take_zero]
        simp only [go_sem, hb7]
        repeat with_reducible refine zN ?_
        refine hK20 _ ?_
        refine adops_nil ?_
        refine athen_n ?_
        refine zV [(8, .bool false)] [] gt ?_
        as_aux_lemma =>
         refine AW.ret ?_
         obtain rfl := Option.some.inj h
         exact zR [] [] []

theorem hc_spec_told (s : Int × Int × (List (List Int)) × (List (List Int))) (state : Int) (a : Int) (b : Int) {r : Bool × Int} (h : spec_told s state a b = some r) : HC Try.prog 84 [] [.agg [.int .i64 s.1, .int .i64 s.2.1, .sl (.sl (.int .i64)) s.2.2.1, .sl (.sl (.int .i64)) s.2.2.2], .fn (.func 85) [] [], .int .i64 state, .int .i64 a, .int .i64 b] [] (.tup [.bool r.1, .int .i64 r.2]) := by
 unfold spec_told at h
 refine zH Try.func84 [.tmp 10, .tmp 11] 37 ?_
 refine zo ?_
 refine zB [(1, .fn (.func 85) [] []), (2, .int .i64 state), (3, .int .i64 a), (4, .int .i64 b), (5, .bp 5 0)] [(5, .box 24 [.int .i64 s.1, .int .i64 s.2.1, .sl (.sl (.int .i64)) s.2.2.1, .sl (.sl (.int .i64)) s.2.2.2])] ?_
 refine zo ?_
 refine zS 3 [(1, .fn (.func 85) [] []), (2, .int .i64 state), (3, .int .i64 a), (4, .int .i64 b), (15, .agg [.int .i64 s.1, .int .i64 s.2.1, .sl (.sl (.int .i64)) s.2.2.1, .sl (.sl (.int .i64)) s.2.2.2]), (17, .own 17)] [(17, .arr 3 (.int .i64) [state])] ?_
 obtain ⟨v0, hv1, h⟩ := Option.bind_eq_some_iff.1 h
 refine zC [17] [] (hc_spec_checked s [state] hv1) [(1, .fn (.func 85) [] []), (2, .int .i64 state), (3, .int .i64 a), (4, .int .i64 b), (18, .tup [.agg [.int .i64 v0.1, .int .i64 v0.2.1, .sl (.sl (.int .i64)) v0.2.2.1, .sl (.sl (.int .i64)) v0.2.2.2.1], .int .i64 v0.2.2.2.2])] [] ?_
 refine zS 5 [(1, .fn (.func 85) [] []), (2, .int .i64 state), (3, .int .i64 a), (4, .int .i64 b), (12, .bp 12 0), (20, .int .i64 v0.2.2.2.2)] [(12, .box 60 [.int .i64 v0.1, .int .i64 v0.2.1, .sl (.sl (.int .i64)) v0.2.2.1, .sl (.sl (.int .i64)) v0.2.2.2.1])] ?_
 refine zB [(1, .fn (.func 85) [] []), (2, .int .i64 state), (3, .int .i64 a), (4, .int .i64 b), (12, .bp 12 0), (13, .int .i64 v0.2.2.2.2)] [(12, .box 60 [.int .i64 v0.1, .int .i64 v0.2.1, .sl (.sl (.int .i64)) v0.2.2.1, .sl (.sl (.int .i64)) v0.2.2.2.1])] ?_
 refine AW.seq ?_
 refine zo ?_
 refine zB [(1, .fn (.func 85) [] []), (2, .int .i64 state), (3, .int .i64 a), (4, .int .i64 b), (12, .bp 12 0), (13, .int .i64 v0.2.2.2.2), (22, .bool (!(decide (v0.2.2.2.2 = 0))))] [(12, .box 60 [.int .i64 v0.1, .int .i64 v0.2.1, .sl (.sl (.int .i64)) v0.2.2.1, .sl (.sl (.int .i64)) v0.2.2.2.1])] ?_
 refine zQ h (fun hb2 h => ?_) (fun hb2 h => ?_)
 ·refine zo ?_
  refine zB [(10, .bool false), (11, .int .i64 v0.2.2.2.2)] [] ?_
  refine zr ?_
  obtain rfl := Option.some.inj h
  exact zR [] [] []
 ·refine zk ?_
  refine AW.seq ?_
  refine zo ?_
  refine zS 5 [(1, .fn (.func 85) [] []), (2, .int .i64 state), (3, .int .i64 a), (4, .int .i64 b), (12, .bp 12 0), (25, .fn (.func 90) [.agg [.int .i64 v0.1, .int .i64 v0.2.1, .sl (.sl (.int .i64)) v0.2.2.1, .sl (.sl (.int .i64)) v0.2.2.2.1]] []), (28, .own 28)] [(12, .box 60 [.int .i64 v0.1, .int .i64 v0.2.1, .sl (.sl (.int .i64)) v0.2.2.1, .sl (.sl (.int .i64)) v0.2.2.2.1]), (28, .arr 3 (.int .i64) [a, b])] ?_
  obtain ⟨v0_2, hv3, h⟩ := Option.bind_eq_some_iff.1 h
  refine zC [28] [] (hc_spec_all_3 (v0.1, v0.2.1, v0.2.2.1, v0.2.2.2.1) [a, b] hv3) [(1, .fn (.func 85) [] []), (2, .int .i64 state), (3, .int .i64 a), (4, .int .i64 b), (12, .bp 12 0), (29, .bool v0_2)] [(12, .box 60 [.int .i64 v0.1, .int .i64 v0.2.1, .sl (.sl (.int .i64)) v0.2.2.1, .sl (.sl (.int .i64)) v0.2.2.2.1])] ?_
  refine zB [(1, .fn (.func 85) [] []), (2, .int .i64 state), (3, .int .i64 a), (4, .int .i64 b), (12, .bp 12 0), (30, .bool (!v0_2))] [(12, .box 60 [.int .i64 v0.1, .int .i64 v0.2.1, .sl (.sl (.int .i64)) v0.2.2.1, .sl (.sl (.int .i64)) v0.2.2.2.1])] ?_
  refine zQ h (fun hb4 h => ?_) (fun hb4 h => ?_)
  ·refine zo ?_
   refine zB [(10, .bool false), (11, .int .i64 2)] [] ?_
   refine zr ?_
   obtain rfl := Option.some.inj h
   exact zR [] [] []
  ·refine zk ?_
   refine zo ?_
   refine zS 5 [(31, .fn (.func 85) [] []), (32, .agg [.int .i64 v0.1, .int .i64 v0.2.1, .sl (.sl (.int .i64)) v0.2.2.1, .sl (.sl (.int .i64)) v0.2.2.2.1]), (33, .int .i64 state), (34, .int .i64 a), (35, .int .i64 b)] [] ?_
   obtain ⟨v0_3, hv5, h⟩ := Option.bind_eq_some_iff.1 h
   refine zC [] [] (hc_spec_machine_commute (v0.1, v0.2.1, v0.2.2.1, v0.2.2.2.1) state a b hv5) [(36, .bool v0_3)] [] ?_
   refine zB [(10, .bool v0_3), (11, .int .i64 0)] [] ?_
   refine AW.ret ?_
   obtain rfl := Option.some.inj h
   exact zR [] [] []

end Go.Proofs.Ytcgflignbhmoaaa
