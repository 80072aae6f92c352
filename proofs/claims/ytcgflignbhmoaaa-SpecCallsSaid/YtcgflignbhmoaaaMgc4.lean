/-
  Made by wip/tool/dc.py out of the print of the program: contracts.
-/
import Derived.Test.YtcgflignbhmoaaaQp
import Derived.Test.YtcgflignbhmoaaaShs
import Derived.Test.YtcgflignbhmoaaaAvd
import Derived.Test.YtcgflignbhmoaaaMgc2
import Derived.Test.YtcgflignbhmoaaaMgc3
namespace Go.Proofs.Ytcgflignbhmoaaa
open Go.RowKit

set_option linter.unusedSimpArgs false
set_option linter.unusedVariables false
set_option linter.constructorNameAsVariable false

set_option maxRecDepth 100000
set_option maxHeartbeats 2000000

theorem hc_spec_apart (m : Int × Int × (List (List Int)) × (List (List Int))) (n : Int × Int × (List (List Int)) × (List (List Int))) (from0 : Int × Int) {r : (List Int) × Bool} (h : spec_apart m n from0 = some r) : HC Try.prog 69 [] [.agg [.int .i64 m.1, .int .i64 m.2.1, .sl (.sl (.int .i64)) m.2.2.1, .sl (.sl (.int .i64)) m.2.2.2], .agg [.int .i64 n.1, .int .i64 n.2.1, .sl (.sl (.int .i64)) n.2.2.1, .sl (.sl (.int .i64)) n.2.2.2], .agg [.int .i64 from0.1, .int .i64 from0.2]] [(2000, .arr 3 (.int .i64) r.1)] (.tup [.own 2000, .bool r.2]) := by
 unfold spec_apart at h
 refine zH Try.func69 [.cell 6 25, .cell 7 4] 45 ?_
 refine zo ?_
 refine zB [(3, .bp 3 0), (4, .bp 4 0), (5, .bp 5 0), (6, .bp 6 0), (7, .bp 7 0)] [(3, .box 60 [.int .i64 m.1, .int .i64 m.2.1, .sl (.sl (.int .i64)) m.2.2.1, .sl (.sl (.int .i64)) m.2.2.2]), (4, .box 60 [.int .i64 n.1, .int .i64 n.2.1, .sl (.sl (.int .i64)) n.2.2.1, .sl (.sl (.int .i64)) n.2.2.2]), (5, .box 75 [.int .i64 from0.1, .int .i64 from0.2]), (6, .box 25 [.cv (.slice none 0 0)]), (7, .box 4 [.bool false])] ?_
 refine AW.have1 (fun _ : Unit => spec_apart_k1 = some r) (fun _ => ⟨fr [(6, .bp 6 0), (7, .bp 7 0)], hpGet [(6, .box 25 [.cv (.slice none 0 0)]), (7, .box 4 [.bool false])], gt⟩) (fun _ h => ?_) (fun hk_spec_apart_k1 => ?_)
 ·as_aux_lemma =>
   unfold spec_apart_k1 at h
   refine zo ?_
   refine zB [(6, .bp 6 0), (7, .bp 7 0)] [(6, .box 25 [.cv (.slice none 0 0)]), (7, .box 4 [.bool false])] ?_
   refine AW.ret ?_
   obtain rfl := Option.some.inj h
   exact zR [] [2000] []
 ·refine AW.seq ?_
  refine zo ?_
  refine zS 3 [(3, .bp 3 0), (4, .bp 4 0), (6, .bp 6 0), (7, .bp 7 0), (11, .agg [.int .i64 m.1, .int .i64 m.2.1, .sl (.sl (.int .i64)) m.2.2.1, .sl (.sl (.int .i64)) m.2.2.2]), (12, .agg [.int .i64 n.1, .int .i64 n.2.1, .sl (.sl (.int .i64)) n.2.2.1, .sl (.sl (.int .i64)) n.2.2.2]), (13, .agg [.int .i64 from0.1, .int .i64 from0.2])] [(3, .box 60 [.int .i64 m.1, .int .i64 m.2.1, .sl (.sl (.int .i64)) m.2.2.1, .sl (.sl (.int .i64)) m.2.2.2]), (4, .box 60 [.int .i64 n.1, .int .i64 n.2.1, .sl (.sl (.int .i64)) n.2.2.1, .sl (.sl (.int .i64)) n.2.2.2]), (6, .box 25 [.cv (.slice none 0 0)]), (7, .box 4 [.bool false])] ?_
  obtain ⟨v0, hv1, h⟩ := Option.bind_eq_some_iff.1 h
  refine zC [] [] (hc_spec_walk m n from0 hv1) [(3, .bp 3 0), (4, .bp 4 0), (6, .bp 6 0), (7, .bp 7 0), (14, .fn (.func 100) [] [.bp 24000 0, .bp 24001 0, .bp 24002 0])] [(3, .box 60 [.int .i64 m.1, .int .i64 m.2.1, .sl (.sl (.int .i64)) m.2.2.1, .sl (.sl (.int .i64)) m.2.2.2]), (4, .box 60 [.int .i64 n.1, .int .i64 n.2.1, .sl (.sl (.int .i64)) n.2.2.1, .sl (.sl (.int .i64)) n.2.2.2]), (6, .box 25 [.cv (.slice none 0 0)]), (7, .box 4 [.bool false]), (24000, .box 75 [.int .i64 from0.1, .int .i64 from0.2]), (24001, .box 60 [.int .i64 m.1, .int .i64 m.2.1, .sl (.sl (.int .i64)) m.2.2.1, .sl (.sl (.int .i64)) m.2.2.2]), (24002, .box 60 [.int .i64 n.1, .int .i64 n.2.1, .sl (.sl (.int .i64)) n.2.2.1, .sl (.sl (.int .i64)) n.2.2.2])] ?_
  refine zB [(3, .bp 3 0), (4, .bp 4 0), (6, .bp 6 0), (7, .bp 7 0), (14, .fn (.func 100) [] [.bp 24000 0, .bp 24001 0, .bp 24002 0])] [(3, .box 60 [.int .i64 m.1, .int .i64 m.2.1, .sl (.sl (.int .i64)) m.2.2.1, .sl (.sl (.int .i64)) m.2.2.2]), (4, .box 60 [.int .i64 n.1, .int .i64 n.2.1, .sl (.sl (.int .i64)) n.2.2.1, .sl (.sl (.int .i64)) n.2.2.2]), (6, .box 25 [.cv (.slice none 0 0)]), (7, .box 4 [.bool false]), (24000, .box 75 [.int .i64 from0.1, .int .i64 from0.2]), (24001, .box 60 [.int .i64 m.1, .int .i64 m.2.1, .sl (.sl (.int .i64)) m.2.2.1, .sl (.sl (.int .i64)) m.2.2.2]), (24002, .box 60 [.int .i64 n.1, .int .i64 n.2.1, .sl (.sl (.int .i64)) n.2.2.1, .sl (.sl (.int .i64)) n.2.2.2])] ?_
  refine AW.block ?_
  obtain ⟨x2, hx3, h⟩ := Option.bind_eq_some_iff.1 h
  refine AW.weaken (s' := ⟨fr [(3, .bp 3 0), (4, .bp 4 0), (6, .bp 6 0), (7, .bp 7 0), (14, .fn (.func 100) [] [.bp 24000 0, .bp 24001 0, .bp 24002 0])], hpGet ([(24000, .box 75 [.int .i64 from0.1, .int .i64 from0.2]), (24001, .box 60 [.int .i64 m.1, .int .i64 m.2.1, .sl (.sl (.int .i64)) m.2.2.1, .sl (.sl (.int .i64)) m.2.2.2]), (24002, .box 60 [.int .i64 n.1, .int .i64 n.2.1, .sl (.sl (.int .i64)) n.2.2.1, .sl (.sl (.int .i64)) n.2.2.2])] ++ [(3, .box 60 [.int .i64 m.1, .int .i64 m.2.1, .sl (.sl (.int .i64)) m.2.2.1, .sl (.sl (.int .i64)) m.2.2.2]), (4, .box 60 [.int .i64 n.1, .int .i64 n.2.1, .sl (.sl (.int .i64)) n.2.2.1, .sl (.sl (.int .i64)) n.2.2.2]), (6, .box 25 [.cv (.slice none 0 0)]), (7, .box 4 [.bool false])]), gt⟩) (zL [] [] []) ?_
  refine AW.rangeF (R := (List Int)) (l0 := [(3, .bp 3 0), (4, .bp 4 0), (6, .bp 6 0), (7, .bp 7 0)]) (hI := [(24000, .box 75 [.int .i64 from0.1, .int .i64 from0.2]), (24001, .box 60 [.int .i64 m.1, .int .i64 m.2.1, .sl (.sl (.int .i64)) m.2.2.1, .sl (.sl (.int .i64)) m.2.2.2]), (24002, .box 60 [.int .i64 n.1, .int .i64 n.2.1, .sl (.sl (.int .i64)) n.2.2.1, .sl (.sl (.int .i64)) n.2.2.2])]) (h0 := fun (st1 : Unit) => [(3, .box 60 [.int .i64 m.1, .int .i64 m.2.1, .sl (.sl (.int .i64)) m.2.2.1, .sl (.sl (.int .i64)) m.2.2.2]), (4, .box 60 [.int .i64 n.1, .int .i64 n.2.1, .sl (.sl (.int .i64)) n.2.2.1, .sl (.sl (.int .i64)) n.2.2.2]), (6, .box 25 [.cv (.slice none 0 0)]), (7, .box 4 [.bool false])]) (gg := fun (st1 : Unit) => gt) (hx0 := (fun (r1 : (List Int)) => [(3, .box 60 [.int .i64 m.1, .int .i64 m.2.1, .sl (.sl (.int .i64)) m.2.2.1, .sl (.sl (.int .i64)) m.2.2.2]), (4, .box 60 [.int .i64 n.1, .int .i64 n.2.1, .sl (.sl (.int .i64)) n.2.2.1, .sl (.sl (.int .i64)) n.2.2.2]), (6, .box 25 [.own 53000]), (7, .box 4 [.bool true]), (53000, .arr 3 (.int .i64) r1)])) (gx := (fun (r1 : (List Int)) => gt)) (ex := (fun (r1 : (List Int)) => Exit.ret)) () [(24000, 1000), (24001, 1001), (24002, 1002)] [(1000, 24000), (1001, 24001), (1002, 24002)] [(3, 1900), (4, 1901), (6, 1902), (7, 1903)] [(1900, 3), (1901, 4), (1902, 6), (1903, 7)] (by decide) rfl (by first | exact (ic_spec_walk_1 from0 m n (spec_apart_y1 m n) () hx3) | simpa only [go_sem] using (ic_spec_walk_1 from0 m n (spec_apart_y1 m n) () hx3)) (by (simp only [go_sem]) <;> (with_reducible and_intros) <;> first | assumption | rfl | omega | (unfold maxLen; omega)) rfl rfl rfl (fun _ => rfl) rfl (fun _ => rfl) rfl (fun _ => rfl) (fun _ => rfl) (fun _ => rfl) (fun _ => rfl) rfl (fun _ _ => by first | rfl | (exact (hΓ _).trans (hΓ _).symm) | (exact (hΓx _).trans (hΓ _).symm)) (fun _ _ => by first | rfl | (exact (hΓ _).trans (hΓ _).symm) | (exact (hΓx _).trans (hΓ _).symm)) ?_ ?_
  ·intro lpy1 y1 st1 x4 h
   unfold spec_apart_y1 at h
   refine zV [(3, .bp 1900 0), (4, .bp 1901 0), (6, .bp 1902 0), (7, .bp 1903 0), (15, .agg [.int .i64 y1.1.1, .int .i64 y1.1.2]), (16, .sl (.int .i64) y1.2)] [(1900, .box 60 [.int .i64 m.1, .int .i64 m.2.1, .sl (.sl (.int .i64)) m.2.2.1, .sl (.sl (.int .i64)) m.2.2.2]), (1901, .box 60 [.int .i64 n.1, .int .i64 n.2.1, .sl (.sl (.int .i64)) n.2.2.1, .sl (.sl (.int .i64)) n.2.2.2]), (1902, .box 25 [.cv (.slice none 0 0)]), (1903, .box 4 [.bool false])] gt ?_
   refine zo ?_
   refine zB [(3, .bp 1900 0), (4, .bp 1901 0), (6, .bp 1902 0), (7, .bp 1903 0), (8, .bp 8 0), (16, .sl (.int .i64) y1.2)] [(8, .box 75 [.int .i64 y1.1.1, .int .i64 y1.1.2]), (1900, .box 60 [.int .i64 m.1, .int .i64 m.2.1, .sl (.sl (.int .i64)) m.2.2.1, .sl (.sl (.int .i64)) m.2.2.2]), (1901, .box 60 [.int .i64 n.1, .int .i64 n.2.1, .sl (.sl (.int .i64)) n.2.2.1, .sl (.sl (.int .i64)) n.2.2.2]), (1902, .box 25 [.cv (.slice none 0 0)]), (1903, .box 4 [.bool false])] ?_
   refine AW.ops ?_
   refine zA [(3, .bp 1900 0), (4, .bp 1901 0), (6, .bp 1902 0), (7, .bp 1903 0), (8, .bp 8 0), (9, .sl (.int .i64) y1.2)] [(8, .box 75 [.int .i64 y1.1.1, .int .i64 y1.1.2]), (1900, .box 60 [.int .i64 m.1, .int .i64 m.2.1, .sl (.sl (.int .i64)) m.2.2.1, .sl (.sl (.int .i64)) m.2.2.2]), (1901, .box 60 [.int .i64 n.1, .int .i64 n.2.1, .sl (.sl (.int .i64)) n.2.2.1, .sl (.sl (.int .i64)) n.2.2.2]), (1902, .box 25 [.cv (.slice none 0 0)]), (1903, .box 4 [.bool false])] ?_
   refine And.intro rfl ?_
   refine AW.block ?_
   refine zo ?_
   refine zB [(3, .bp 1900 0), (4, .bp 1901 0), (6, .bp 1902 0), (7, .bp 1903 0), (8, .bp 8 0), (9, .sl (.int .i64) y1.2), (18, .int .i64 m.2.1), (19, .int .i64 0)] [(8, .box 75 [.int .i64 y1.1.1, .int .i64 y1.1.2]), (1900, .box 60 [.int .i64 m.1, .int .i64 m.2.1, .sl (.sl (.int .i64)) m.2.2.1, .sl (.sl (.int .i64)) m.2.2.2]), (1901, .box 60 [.int .i64 n.1, .int .i64 n.2.1, .sl (.sl (.int .i64)) n.2.2.1, .sl (.sl (.int .i64)) n.2.2.2]), (1902, .box 25 [.cv (.slice none 0 0)]), (1903, .box 4 [.bool false])] ?_
   refine AW.block ?_
   obtain ⟨rv9, hw5, ho6⟩ := Option.bind_eq_some_iff.1 h
   refine AW.loopO (spec_apart_b2 m n y1) (fun st2 => ⟨fr [(3, .bp 1900 0), (4, .bp 1901 0), (6, .bp 1902 0), (7, .bp 1903 0), (8, .bp 8 0), (9, .sl (.int .i64) y1.2), (18, .int .i64 m.2.1), (19, .int .i64 st2)], hpGet [(8, .box 75 [.int .i64 y1.1.1, .int .i64 y1.1.2]), (1900, .box 60 [.int .i64 m.1, .int .i64 m.2.1, .sl (.sl (.int .i64)) m.2.2.1, .sl (.sl (.int .i64)) m.2.2.2]), (1901, .box 60 [.int .i64 n.1, .int .i64 n.2.1, .sl (.sl (.int .i64)) n.2.2.1, .sl (.sl (.int .i64)) n.2.2.2]), (1902, .box 25 [.cv (.slice none 0 0)]), (1903, .box 4 [.bool false])], gt⟩) 0 hw5 (zL [] [] []) ?_
   as_aux_lemma =>
    intro st2 x8 h hd7
    unfold spec_apart_b2 at h
    refine zo ?_
    refine zB [(3, .bp 1900 0), (4, .bp 1901 0), (6, .bp 1902 0), (7, .bp 1903 0), (8, .bp 8 0), (9, .sl (.int .i64) y1.2), (18, .int .i64 m.2.1), (19, .int .i64 st2), (20, .bool (decide (st2 < m.2.1)))] [(8, .box 75 [.int .i64 y1.1.1, .int .i64 y1.1.2]), (1900, .box 60 [.int .i64 m.1, .int .i64 m.2.1, .sl (.sl (.int .i64)) m.2.2.1, .sl (.sl (.int .i64)) m.2.2.2]), (1901, .box 60 [.int .i64 n.1, .int .i64 n.2.1, .sl (.sl (.int .i64)) n.2.2.1, .sl (.sl (.int .i64)) n.2.2.2]), (1902, .box 25 [.cv (.slice none 0 0)]), (1903, .box 4 [.bool false])] ?_
    refine AW.seq ?_
    refine zQ h (fun hb10 h => ?_) (fun hb10 h => ?_)
    ·refine zk ?_
     refine AW.seq ?_
     refine AW.block ?_
     refine zo ?_
     refine zB [(3, .bp 1900 0), (4, .bp 1901 0), (6, .bp 1902 0), (7, .bp 1903 0), (8, .bp 8 0), (9, .sl (.int .i64) y1.2), (10, .int .i64 st2), (18, .int .i64 m.2.1), (19, .int .i64 st2)] [(8, .box 75 [.int .i64 y1.1.1, .int .i64 y1.1.2]), (1900, .box 60 [.int .i64 m.1, .int .i64 m.2.1, .sl (.sl (.int .i64)) m.2.2.1, .sl (.sl (.int .i64)) m.2.2.2]), (1901, .box 60 [.int .i64 n.1, .int .i64 n.2.1, .sl (.sl (.int .i64)) n.2.2.1, .sl (.sl (.int .i64)) n.2.2.2]), (1902, .box 25 [.cv (.slice none 0 0)]), (1903, .box 4 [.bool false])] ?_
     refine AW.seq ?_
     refine AW.draw tab_ok mixed_ok [] [] (by decide) (lex_fast (by kernel_rfl)) ?_
     as_aux_lemma =>
      obtain ⟨c12, h⟩ := ck_some.1 h
      obtain ⟨c13, h⟩ := ck_some.1 h
      refine adops_cut 6 (fun K' hK11 => ?_)
      try dsimp only [List.drop_succ_cons, List.drop_zero, List.take_succ_cons, List.take_zero]
      simp only [go_sem, hb10]
      repeat with_reducible refine zN ?_
      refine hK11 _ ?_
      as_aux_lemma =>
       obtain ⟨c15, h⟩ := ck_some.1 h
       obtain ⟨c16, h⟩ := ck_some.1 h
       refine adops_cut 6 (fun K' hK14 => ?_)
       try dsimp only [List.drop_succ_cons, List.drop_zero, List.take_succ_cons, List.take_zero]
       simp only [go_sem, hb10]
       repeat with_reducible refine zN ?_
       refine hK14 _ ?_
       as_aux_lemma =>
        obtain ⟨c18, h⟩ := ck_some.1 h
        obtain ⟨c19, h⟩ := ck_some.1 h
        obtain ⟨c20, h⟩ := ck_some.1 h
        obtain ⟨c21, h⟩ := ck_some.1 h
        refine adops_cut 6 (fun K' hK17 => ?_)
        try dsimp only [List.drop_succ_cons, List.drop_zero, List.take_succ_cons, List.take_zero]
        simp only [go_sem, hb10]
        repeat with_reducible refine zN ?_
        refine hK17 _ ?_
        as_aux_lemma =>
         refine adops_cut 1 (fun K' hK22 => ?_)
         try dsimp only [List.drop_succ_cons, List.drop_zero, List.take_succ_cons, List.take_zero]
         simp only [go_sem, hb10]
         repeat with_reducible refine zN ?_
         refine hK22 _ ?_
         refine adops_nil ?_
         refine athen_n ?_
         refine zV [(3, .bp 1900 0), (4, .bp 1901 0), (6, .bp 1902 0), (7, .bp 1903 0), (8, .bp 8 0), (9, .sl (.int .i64) y1.2), (10, .int .i64 st2), (18, .int .i64 m.2.1), (19, .int .i64 st2), (40, .bool (!(decide (((m.2.2.2.getD y1.1.1.toNat []).getD st2.toNat 0) = ((n.2.2.2.getD y1.1.2.toNat []).getD st2.toNat 0)))))] [(8, .box 75 [.int .i64 y1.1.1, .int .i64 y1.1.2]), (1900, .box 60 [.int .i64 m.1, .int .i64 m.2.1, .sl (.sl (.int .i64)) m.2.2.1, .sl (.sl (.int .i64)) m.2.2.2]), (1901, .box 60 [.int .i64 n.1, .int .i64 n.2.1, .sl (.sl (.int .i64)) n.2.2.1, .sl (.sl (.int .i64)) n.2.2.2]), (1902, .box 25 [.cv (.slice none 0 0)]), (1903, .box 4 [.bool false])] gt ?_
         as_aux_lemma =>
          refine zQ h (fun hb23 h => ?_) (fun hb23 h => ?_)
          ·refine zo ?_
           refine zS 2 [(3, .bp 1900 0), (4, .bp 1901 0), (6, .bp 1902 0), (7, .bp 1903 0), (41, .sl (.int .i64) y1.2), (42, .int .i64 st2)] [(1900, .box 60 [.int .i64 m.1, .int .i64 m.2.1, .sl (.sl (.int .i64)) m.2.2.1, .sl (.sl (.int .i64)) m.2.2.2]), (1901, .box 60 [.int .i64 n.1, .int .i64 n.2.1, .sl (.sl (.int .i64)) n.2.2.1, .sl (.sl (.int .i64)) n.2.2.2]), (1902, .box 25 [.cv (.slice none 0 0)]), (1903, .box 4 [.bool false])] ?_
           obtain ⟨v0_2, hv24, h⟩ := Option.bind_eq_some_iff.1 h
           refine zC [] [] (hc_spec_longer y1.2 st2 hv24) [(3, .bp 1900 0), (4, .bp 1901 0), (6, .bp 1902 0), (7, .bp 1903 0), (43, .own 53000)] [(1900, .box 60 [.int .i64 m.1, .int .i64 m.2.1, .sl (.sl (.int .i64)) m.2.2.1, .sl (.sl (.int .i64)) m.2.2.2]), (1901, .box 60 [.int .i64 n.1, .int .i64 n.2.1, .sl (.sl (.int .i64)) n.2.2.1, .sl (.sl (.int .i64)) n.2.2.2]), (1902, .box 25 [.cv (.slice none 0 0)]), (1903, .box 4 [.bool false]), (53000, .arr 3 (.int .i64) v0_2)] ?_
           refine zB [(3, .bp 1900 0), (4, .bp 1901 0), (6, .bp 1902 0), (7, .bp 1903 0)] [(1900, .box 60 [.int .i64 m.1, .int .i64 m.2.1, .sl (.sl (.int .i64)) m.2.2.1, .sl (.sl (.int .i64)) m.2.2.2]), (1901, .box 60 [.int .i64 n.1, .int .i64 n.2.1, .sl (.sl (.int .i64)) n.2.2.1, .sl (.sl (.int .i64)) n.2.2.2]), (1902, .box 25 [.own 53000]), (1903, .box 4 [.bool true]), (53000, .arr 3 (.int .i64) v0_2)] ?_
           refine AW.ret ?_
           refine ablock_r ?_
           refine athen_r ?_
           obtain rfl := Option.some.inj h
           rw [← hd7 _ rfl] at ho6
           have h := ho6
           try simp only at h
           refine athen_r ?_
           refine ablock_r ?_
           refine ablock_r ?_
           obtain rfl := Option.some.inj h
           exact rpost_ret rfl rfl [] [] [] rfl (by (simp only [go_sem, hb10, hb23]) <;> (with_reducible and_intros) <;> first | assumption | rfl | omega | (unfold maxLen; omega))
          ·refine zm ?_
           refine athen_n ?_
           refine AW.ops ?_
           obtain ⟨c25, h⟩ := ck_some.1 h
           refine zA [(3, .bp 1900 0), (4, .bp 1901 0), (6, .bp 1902 0), (7, .bp 1903 0), (8, .bp 8 0), (9, .sl (.int .i64) y1.2), (18, .int .i64 m.2.1), (19, .int .i64 (st2 + 1))] [(8, .box 75 [.int .i64 y1.1.1, .int .i64 y1.1.2]), (1900, .box 60 [.int .i64 m.1, .int .i64 m.2.1, .sl (.sl (.int .i64)) m.2.2.1, .sl (.sl (.int .i64)) m.2.2.2]), (1901, .box 60 [.int .i64 n.1, .int .i64 n.2.1, .sl (.sl (.int .i64)) n.2.2.1, .sl (.sl (.int .i64)) n.2.2.2]), (1902, .box 25 [.cv (.slice none 0 0)]), (1903, .box 4 [.bool false])] ?_
           obtain rfl := Option.some.inj h
           exact ⟨_, rfl, zL [] [] []⟩
    ·refine AW.exit ?_
     refine athen_e ?_
     obtain rfl := Option.some.inj h
     rw [← hd7 _ rfl] at ho6
     have h := ho6
     try simp only at h
     refine athen_e ?_
     refine ablock_s ?_
     refine ablock_n ?_
     obtain rfl := Option.some.inj h
     exact rpost_next rfl [] [] [] rfl (by (simp only [go_sem, hb10]) <;> (with_reducible and_intros) <;> first | assumption | rfl | omega | (unfold maxLen; omega))
  ·cases x2 with
   | inl st1_2 =>
    try simp only at h
    refine ablock_n ?_
    refine athen_n ?_
    exact AW.weaken (zL [] [] []) (hk_spec_apart_k1 () h)
   | inr r1 =>
    try simp only at h
    refine ablock_r ?_
    refine athen_r ?_
    obtain rfl := Option.some.inj h
    exact zR [] [] [(2000, 53000)]

theorem hc_spec_Word (s : Int × Int × (List (List Int)) × (List (List Int))) (a : Int) (b : Int) {r : (List Int) × Int} (h : spec_Word s a b = some r) : HC Try.prog 27 [] [.agg [.int .i64 s.1, .int .i64 s.2.1, .sl (.sl (.int .i64)) s.2.2.1, .sl (.sl (.int .i64)) s.2.2.2], .int .i64 a, .int .i64 b] [(2000, .arr 3 (.int .i64) r.1)] (.tup [.own 2000, .int .i64 r.2]) := by
 unfold spec_Word at h
 refine zH Try.func27 [.tmp 6, .tmp 7] 35 ?_
 refine zo ?_
 refine zB [(1, .int .i64 a), (2, .int .i64 b), (3, .bp 3 0)] [(3, .box 24 [.int .i64 s.1, .int .i64 s.2.1, .sl (.sl (.int .i64)) s.2.2.1, .sl (.sl (.int .i64)) s.2.2.2])] ?_
 refine zo ?_
 refine zS 4 [(1, .int .i64 a), (2, .int .i64 b), (13, .agg [.int .i64 s.1, .int .i64 s.2.1, .sl (.sl (.int .i64)) s.2.2.1, .sl (.sl (.int .i64)) s.2.2.2]), (16, .own 16)] [(16, .arr 3 (.int .i64) [a, b])] ?_
 obtain ⟨v0, hv1, h⟩ := Option.bind_eq_some_iff.1 h
 refine zC [16] [] (hc_spec_checked s [a, b] hv1) [(1, .int .i64 a), (2, .int .i64 b), (17, .tup [.agg [.int .i64 v0.1, .int .i64 v0.2.1, .sl (.sl (.int .i64)) v0.2.2.1, .sl (.sl (.int .i64)) v0.2.2.2.1], .int .i64 v0.2.2.2.2])] [] ?_
 refine zS 5 [(1, .int .i64 a), (2, .int .i64 b), (8, .bp 8 0), (19, .int .i64 v0.2.2.2.2)] [(8, .box 60 [.int .i64 v0.1, .int .i64 v0.2.1, .sl (.sl (.int .i64)) v0.2.2.1, .sl (.sl (.int .i64)) v0.2.2.2.1])] ?_
 refine zB [(1, .int .i64 a), (2, .int .i64 b), (8, .bp 8 0), (9, .int .i64 v0.2.2.2.2)] [(8, .box 60 [.int .i64 v0.1, .int .i64 v0.2.1, .sl (.sl (.int .i64)) v0.2.2.1, .sl (.sl (.int .i64)) v0.2.2.2.1])] ?_
 refine AW.seq ?_
 refine zo ?_
 refine zB [(1, .int .i64 a), (2, .int .i64 b), (8, .bp 8 0), (9, .int .i64 v0.2.2.2.2), (21, .bool (!(decide (v0.2.2.2.2 = 0))))] [(8, .box 60 [.int .i64 v0.1, .int .i64 v0.2.1, .sl (.sl (.int .i64)) v0.2.2.1, .sl (.sl (.int .i64)) v0.2.2.2.1])] ?_
 refine zQ h (fun hb2 h => ?_) (fun hb2 h => ?_)
 ·refine zo ?_
  refine zB [(6, .cv (.slice none 0 0)), (7, .int .i64 v0.2.2.2.2)] [] ?_
  refine zr ?_
  obtain rfl := Option.some.inj h
  exact zR [] [2000] []
 ·refine zk ?_
  refine zo ?_
  refine zS 5 [(24, .agg [.int .i64 v0.1, .int .i64 v0.2.1, .sl (.sl (.int .i64)) v0.2.2.1, .sl (.sl (.int .i64)) v0.2.2.2.1]), (25, .agg [.int .i64 v0.1, .int .i64 v0.2.1, .sl (.sl (.int .i64)) v0.2.2.1, .sl (.sl (.int .i64)) v0.2.2.2.1]), (28, .agg [.int .i64 a, .int .i64 b])] [] ?_
  obtain ⟨v0_2, hv3, h⟩ := Option.bind_eq_some_iff.1 h
  refine zC [] [] (hc_spec_apart (v0.1, v0.2.1, v0.2.2.1, v0.2.2.2.1) (v0.1, v0.2.1, v0.2.2.1, v0.2.2.2.1) (a, b) hv3) [(29, .tup [.own 39000, .bool v0_2.2])] [(39000, .arr 3 (.int .i64) v0_2.1)] ?_
  refine zB [(10, .own 39000), (11, .bool v0_2.2)] [(39000, .arr 3 (.int .i64) v0_2.1)] ?_
  refine AW.seq ?_
  refine zo ?_
  refine zB [(10, .own 39000), (33, .bool (!v0_2.2))] [(39000, .arr 3 (.int .i64) v0_2.1)] ?_
  refine zQ h (fun hb4 h => ?_) (fun hb4 h => ?_)
  ·refine zo ?_
   refine zB [(6, .cv (.slice none 0 0)), (7, .int .i64 5)] [] ?_
   refine zr ?_
   obtain rfl := Option.some.inj h
   exact zR [] [2000] []
  ·refine zk ?_
   refine zo ?_
   refine zB [(6, .own 39000), (7, .int .i64 0)] [(39000, .arr 3 (.int .i64) v0_2.1)] ?_
   refine AW.ret ?_
   obtain rfl := Option.some.inj h
   exact zR [] [] [(2000, 39000)]

theorem hc_linealref01_SameInts (a : List Int) (b : List Int) {r : Bool} (h : linealref01_SameInts a b = some r) : HC Try.prog 24 [] [.sl (.int .i64) a, .sl (.int .i64) b] [] (.bool r) := by
 unfold linealref01_SameInts at h
 refine zH Try.func24 [.tmp 4] 26 ?_
 refine zo ?_
 refine zB [(0, .sl (.int .i64) a), (1, .sl (.int .i64) b)] [] ?_
 refine AW.seq ?_
 refine zo ?_
 refine zB [(0, .sl (.int .i64) a), (1, .sl (.int .i64) b), (10, .bool (!(decide ((a.length : Int) = (b.length : Int)))))] [] ?_
 refine zQ h (fun hb1 h => ?_) (fun hb1 h => ?_)
 ·refine zo ?_
  refine zB [(4, .bool false)] [] ?_
  refine zr ?_
  obtain rfl := Option.some.inj h
  exact zR [] [] []
 ·refine zk ?_
  refine AW.have1 (fun _ : Unit => linealref01_SameInts_k1 = some r) (fun _ => ⟨fr [], hpGet [], gt⟩) (fun _ h => ?_) (fun hk_linealref01_SameInts_k1 => ?_)
  ·as_aux_lemma =>
    unfold linealref01_SameInts_k1 at h
    refine zo ?_
    refine zB [(4, .bool true)] [] ?_
    refine AW.ret ?_
    obtain rfl := Option.some.inj h
    exact zR [] [] []
  ·refine AW.seq ?_
   refine zo ?_
   refine zB [(0, .sl (.int .i64) a), (1, .sl (.int .i64) b), (12, .int .i64 (a.length : Int)), (13, .int .i64 0)] [] ?_
   refine AW.block ?_
   obtain ⟨rv6, hw2, ho3⟩ := Option.bind_eq_some_iff.1 h
   refine AW.loopO (linealref01_SameInts_b1 a b) (fun st1 => ⟨fr [(0, .sl (.int .i64) a), (1, .sl (.int .i64) b), (12, .int .i64 (a.length : Int)), (13, .int .i64 st1)], hpGet [], gt⟩) 0 hw2 (zL [] [] []) ?_
   as_aux_lemma =>
    intro st1 x5 h hd4
    unfold linealref01_SameInts_b1 at h
    refine zo ?_
    refine zB [(0, .sl (.int .i64) a), (1, .sl (.int .i64) b), (12, .int .i64 (a.length : Int)), (13, .int .i64 st1), (14, .bool (decide (st1 < (a.length : Int))))] [] ?_
    refine AW.seq ?_
    refine zQ h (fun hb7 h => ?_) (fun hb7 h => ?_)
    ·refine zk ?_
     refine AW.seq ?_
     refine AW.block ?_
     refine zo ?_
     refine zB [(0, .sl (.int .i64) a), (1, .sl (.int .i64) b), (5, .int .i64 st1), (12, .int .i64 (a.length : Int)), (13, .int .i64 st1)] [] ?_
     refine AW.seq ?_
     refine AW.draw tab_ok mixed_ok [] [] (by decide) (lex_fast (by kernel_rfl)) ?_
     as_aux_lemma =>
      obtain ⟨c9, h⟩ := ck_some.1 h
      obtain ⟨c10, h⟩ := ck_some.1 h
      refine adops_cut 6 (fun K' hK8 => ?_)
      try dsimp only [List.drop_succ_cons, List.drop_zero, List.take_succ_cons, List.take_zero]
      simp only [go_sem, hb1, hb7]
      repeat with_reducible refine zN ?_
      refine hK8 _ ?_
      as_aux_lemma =>
       obtain ⟨c12, h⟩ := ck_some.1 h
       obtain ⟨c13, h⟩ := ck_some.1 h
       refine adops_cut 3 (fun K' hK11 => ?_)
       try dsimp only [List.drop_succ_cons, List.drop_zero, List.take_succ_cons, List.take_zero]
       simp only [go_sem, hb1, hb7]
       repeat with_reducible refine zN ?_
       refine hK11 _ ?_
       refine adops_nil ?_
       refine athen_n ?_
       refine zV [(0, .sl (.int .i64) a), (1, .sl (.int .i64) b), (12, .int .i64 (a.length : Int)), (13, .int .i64 st1), (24, .bool (!(decide ((a.getD st1.toNat 0) = (b.getD st1.toNat 0)))))] [] gt ?_
       as_aux_lemma =>
        refine zQ h (fun hb14 h => ?_) (fun hb14 h => ?_)
        ·refine zo ?_
         refine zB [(4, .bool false)] [] ?_
         refine AW.ret ?_
         refine ablock_r ?_
         refine athen_r ?_
         obtain rfl := Option.some.inj h
         rw [← hd4 _ rfl] at ho3
         have h := ho3
         try simp only at h
         refine athen_r ?_
         refine ablock_r ?_
         refine athen_r ?_
         obtain rfl := Option.some.inj h
         exact zR [] [] []
        ·refine zm ?_
         refine athen_n ?_
         refine AW.ops ?_
         obtain ⟨c15, h⟩ := ck_some.1 h
         refine zA [(0, .sl (.int .i64) a), (1, .sl (.int .i64) b), (12, .int .i64 (a.length : Int)), (13, .int .i64 (st1 + 1))] [] ?_
         obtain rfl := Option.some.inj h
         exact ⟨_, rfl, zL [] [] []⟩
    ·refine AW.exit ?_
     refine athen_e ?_
     obtain rfl := Option.some.inj h
     rw [← hd4 _ rfl] at ho3
     have h := ho3
     try simp only at h
     refine athen_e ?_
     refine ablock_s ?_
     refine athen_n ?_
     exact AW.weaken (zL [] [] []) (hk_linealref01_SameInts_k1 () h)

theorem hc_lineallaw01_Awake {r : Bool} (h : lineallaw01_Awake = some r) : HC Try.prog 17 [] [] [] (.bool r) := by
 unfold lineallaw01_Awake at h
 refine zH Try.func17 [.tmp 0] 23 ?_
 refine zo ?_
 refine zB [] [] ?_
 refine zo ?_
 refine zS 5 [(6, .own 6), (7, .own 7), (8, .own 8)] [(6, .arr 25 (.sl (.int .i64)) [[1, 0], [1, 1]]), (7, .arr 3 (.int .i64) [0, 0]), (8, .arr 3 (.int .i64) [0, 1])] ?_
 refine zB [(1, .bp 1 0)] [(1, .box 24 [.int .i64 2, .int .i64 2, .own 6, .own 9]), (6, .arr 25 (.sl (.int .i64)) [[1, 0], [1, 1]]), (9, .arr 25 (.sl (.int .i64)) [[0, 0], [0, 1]])] ?_
 refine zo ?_
 refine zS 1 [(12, .agg [.int .i64 2, .int .i64 2, .own 6, .own 9])] [(6, .arr 25 (.sl (.int .i64)) [[1, 0], [1, 1]]), (9, .arr 25 (.sl (.int .i64)) [[0, 0], [0, 1]])] ?_
 obtain ⟨v0, hv1, h⟩ := Option.bind_eq_some_iff.1 h
 refine zC [6, 9] [] (hc_spec_Word (2, 2, [[1, 0], [1, 1]], [[0, 0], [0, 1]]) 0 1 hv1) [(13, .tup [.own 23000, .int .i64 v0.2])] [(23000, .arr 3 (.int .i64) v0.1)] ?_
 refine zB [(2, .own 23000), (3, .int .i64 v0.2)] [(23000, .arr 3 (.int .i64) v0.1)] ?_
 refine zo ?_
 refine zS 3 [(2, .own 23000), (18, .bool (decide (v0.2 = 0)))] [(23000, .arr 3 (.int .i64) v0.1)] ?_
 rcases zI h with ⟨hb2, h⟩ | ⟨hb2, h⟩
 ·refine zS 2 [(18, .bool true), (19, .own 23000), (20, .own 20)] [(20, .arr 3 (.int .i64) [1]), (23000, .arr 3 (.int .i64) v0.1)] ?_
  obtain ⟨v0_2, hv3, h⟩ := Option.bind_eq_some_iff.1 h
  refine zG [20, 23000] [] (hc_linealref01_SameInts v0.1 [1] hv3) [(18, .bool true), (21, .bool v0_2)] [] ?_
  refine zB [(0, .bool v0_2)] [] ?_
  refine AW.ret ?_
  obtain rfl := Option.some.inj h
  exact zR [] [] []
 ·refine zB [(0, .bool false)] [] ?_
  refine AW.ret ?_
  obtain rfl := Option.some.inj h
  exact zR [] [] []

end Go.Proofs.Ytcgflignbhmoaaa
