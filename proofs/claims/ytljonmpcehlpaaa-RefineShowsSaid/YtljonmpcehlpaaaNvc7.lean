/-
  Made by wip/tool/dc.py out of the print of the program: contracts.
-/
import Derived.Test.YtljonmpcehlpaaaRfp
import Derived.Test.YtljonmpcehlpaaaShr
import Derived.Test.YtljonmpcehlpaaaNvc4
import Derived.Test.YtljonmpcehlpaaaNvc5
namespace Go.Proofs.Ytljonmpcehlpaaa
open Go.RowKit

set_option linter.unusedSimpArgs false
set_option linter.unusedVariables false
set_option linter.constructorNameAsVariable false

set_option maxRecDepth 100000
set_option maxHeartbeats 2000000

theorem hc_linealref05_Shows (c : Int × (List (Int × Int × Int))) (a : Int × (List (Int × Int × Int))) {r : (List Int) × Int} (h : linealref05_Shows c a = some r) : HC Try.prog 42 [] [.agg [.int .i64 c.1, .sl (.pair (.int .i64) (.pair (.int .i64) (.int .i64))) c.2], .agg [.int .i64 a.1, .sl (.pair (.int .i64) (.pair (.int .i64) (.int .i64))) a.2]] [(2000, .arr 3 (.int .i64) r.1)] (.tup [.own 2000, .int .i64 r.2]) := by
 unfold linealref05_Shows at h
 refine zH Try.func42 [.tmp 4, .tmp 5] 71 ?_
 refine zo ?_
 refine zB [(2, .bp 2 0), (3, .bp 3 0)] [(2, .box 24 [.int .i64 c.1, .sl (.pair (.int .i64) (.pair (.int .i64) (.int .i64))) c.2]), (3, .box 24 [.int .i64 a.1, .sl (.pair (.int .i64) (.pair (.int .i64) (.int .i64))) a.2])] ?_
 refine AW.seq ?_
 refine zo ?_
 refine zS 1 [(2, .bp 2 0), (3, .bp 3 0), (15, .agg [.int .i64 c.1, .sl (.pair (.int .i64) (.pair (.int .i64) (.int .i64))) c.2])] [(2, .box 24 [.int .i64 c.1, .sl (.pair (.int .i64) (.pair (.int .i64) (.int .i64))) c.2]), (3, .box 24 [.int .i64 a.1, .sl (.pair (.int .i64) (.pair (.int .i64) (.int .i64))) a.2])] ?_
 obtain ⟨v0, hv1, h⟩ := Option.bind_eq_some_iff.1 h
 refine zC [] [] (hc_linealref05_Valid c hv1) [(2, .bp 2 0), (3, .bp 3 0), (16, .bool v0)] [(2, .box 24 [.int .i64 c.1, .sl (.pair (.int .i64) (.pair (.int .i64) (.int .i64))) c.2]), (3, .box 24 [.int .i64 a.1, .sl (.pair (.int .i64) (.pair (.int .i64) (.int .i64))) a.2])] ?_
 refine zS 2 [(2, .bp 2 0), (3, .bp 3 0), (18, .bool (!v0))] [(2, .box 24 [.int .i64 c.1, .sl (.pair (.int .i64) (.pair (.int .i64) (.int .i64))) c.2]), (3, .box 24 [.int .i64 a.1, .sl (.pair (.int .i64) (.pair (.int .i64) (.int .i64))) a.2])] ?_
 rcases zI h with ⟨hb2, h⟩ | ⟨hb2, h⟩
 ·refine zB [(2, .bp 2 0), (3, .bp 3 0), (22, .bool true)] [(2, .box 24 [.int .i64 c.1, .sl (.pair (.int .i64) (.pair (.int .i64) (.int .i64))) c.2]), (3, .box 24 [.int .i64 a.1, .sl (.pair (.int .i64) (.pair (.int .i64) (.int .i64))) a.2])] ?_
  refine AW.cond (b := true) rfl (fun _ => ?_) (fun hb3 => by cases hb3)
  refine zo ?_
  refine zB [(4, .cv (.slice none 0 0)), (5, .int .i64 50)] [] ?_
  refine zr ?_
  obtain rfl := Option.some.inj h
  exact zR [] [2000] []
 ·refine zS 1 [(2, .bp 2 0), (3, .bp 3 0), (18, .bool false), (19, .agg [.int .i64 a.1, .sl (.pair (.int .i64) (.pair (.int .i64) (.int .i64))) a.2])] [(2, .box 24 [.int .i64 c.1, .sl (.pair (.int .i64) (.pair (.int .i64) (.int .i64))) c.2]), (3, .box 24 [.int .i64 a.1, .sl (.pair (.int .i64) (.pair (.int .i64) (.int .i64))) a.2])] ?_
  obtain ⟨v0_2, hv4, h⟩ := Option.bind_eq_some_iff.1 h
  refine zG [] [] (hc_linealref05_Valid a hv4) [(2, .bp 2 0), (3, .bp 3 0), (18, .bool false), (20, .bool v0_2)] [(2, .box 24 [.int .i64 c.1, .sl (.pair (.int .i64) (.pair (.int .i64) (.int .i64))) c.2]), (3, .box 24 [.int .i64 a.1, .sl (.pair (.int .i64) (.pair (.int .i64) (.int .i64))) a.2])] ?_
  refine zB [(2, .bp 2 0), (3, .bp 3 0), (22, .bool (!v0_2))] [(2, .box 24 [.int .i64 c.1, .sl (.pair (.int .i64) (.pair (.int .i64) (.int .i64))) c.2]), (3, .box 24 [.int .i64 a.1, .sl (.pair (.int .i64) (.pair (.int .i64) (.int .i64))) a.2])] ?_
  refine zQ h (fun hb5 h => ?_) (fun hb5 h => ?_)
  ·refine zo ?_
   refine zB [(4, .cv (.slice none 0 0)), (5, .int .i64 50)] [] ?_
   refine zr ?_
   obtain rfl := Option.some.inj h
   exact zR [] [2000] []
  ·refine zk ?_
   refine zo ?_
   refine zB [(2, .bp 2 0), (3, .bp 3 0), (6, .bp 6 0)] [(2, .box 24 [.int .i64 c.1, .sl (.pair (.int .i64) (.pair (.int .i64) (.int .i64))) c.2]), (3, .box 24 [.int .i64 a.1, .sl (.pair (.int .i64) (.pair (.int .i64) (.int .i64))) a.2]), (6, .box 108 (cellsX T108 (Ty.dflt T108)))] ?_
   refine zo ?_
   refine zB [(2, .bp 2 0), (3, .bp 3 0), (6, .bp 6 0), (7, .own 23)] [(2, .box 24 [.int .i64 c.1, .sl (.pair (.int .i64) (.pair (.int .i64) (.int .i64))) c.2]), (3, .box 24 [.int .i64 a.1, .sl (.pair (.int .i64) (.pair (.int .i64) (.int .i64))) a.2]), (6, .box 108 (cellsX T108 (Ty.dflt T108))), (23, .arr 27 (.sl (.int .i64)) [[]])] ?_
   refine AW.have1 (fun _ : Unit => linealref05_Shows_k1 = some r) (fun _ => ⟨fr [], hpGet [], gt⟩) (fun _ h => ?_) (fun hk_linealref05_Shows_k1 => ?_)
   ·as_aux_lemma =>
     unfold linealref05_Shows_k1 at h
     refine zo ?_
     refine zB [(4, .cv (.slice none 0 0)), (5, .int .i64 5)] [] ?_
     refine AW.ret ?_
     obtain rfl := Option.some.inj h
     exact zR [] [2000] []
   ·refine AW.seq ?_
    refine AW.block ?_
    obtain ⟨rv10, hw6, ho7⟩ := Option.bind_eq_some_iff.1 h
    refine AW.loopO (linealref05_Shows_b1 c a) (fun st1 => ⟨fr [(2, .bp 2 0), (3, .bp 3 0), (6, .bp 6 0), (7, .own 23)], hpGet [(2, .box 24 [.int .i64 c.1, .sl (.pair (.int .i64) (.pair (.int .i64) (.int .i64))) c.2]), (3, .box 24 [.int .i64 a.1, .sl (.pair (.int .i64) (.pair (.int .i64) (.int .i64))) a.2]), (6, .box 108 (cellsX T108 st1.1)), (23, .arr 27 (.sl (.int .i64)) st1.2)], gt⟩) ((Ty.dflt T108), [[]]) hw6 (zL [] [] []) ?_
    as_aux_lemma =>
     intro st1 x9 h hd8
     unfold linealref05_Shows_b1 at h
     refine AW.seq ?_
     refine zo ?_
     refine zB [(2, .bp 2 0), (3, .bp 3 0), (6, .bp 6 0), (7, .own 23), (26, .bool (decide (0 < (st1.2.length : Int))))] [(2, .box 24 [.int .i64 c.1, .sl (.pair (.int .i64) (.pair (.int .i64) (.int .i64))) c.2]), (3, .box 24 [.int .i64 a.1, .sl (.pair (.int .i64) (.pair (.int .i64) (.int .i64))) a.2]), (6, .box 108 (cellsX T108 st1.1)), (23, .arr 27 (.sl (.int .i64)) st1.2)] ?_
     refine zQ h (fun hb11 h => ?_) (fun hb11 h => ?_)
     ·refine zk ?_
      refine AW.block ?_
      refine zo ?_
      refine zB [(2, .bp 2 0), (3, .bp 3 0), (6, .bp 6 0), (7, .own 23), (8, .cv (.slice none 0 0))] [(2, .box 24 [.int .i64 c.1, .sl (.pair (.int .i64) (.pair (.int .i64) (.int .i64))) c.2]), (3, .box 24 [.int .i64 a.1, .sl (.pair (.int .i64) (.pair (.int .i64) (.int .i64))) a.2]), (6, .box 108 (cellsX T108 st1.1)), (23, .arr 27 (.sl (.int .i64)) st1.2)] ?_
      refine AW.have1 (fun b3_2 : (El T108) × (List (List Int)) => linealref05_Shows_k2 b3_2 = some x9) (fun b3_2 => ⟨fr [(2, .bp 2 0), (3, .bp 3 0), (6, .bp 6 0), (8, .own 68)], hpGet [(2, .box 24 [.int .i64 c.1, .sl (.pair (.int .i64) (.pair (.int .i64) (.int .i64))) c.2]), (3, .box 24 [.int .i64 a.1, .sl (.pair (.int .i64) (.pair (.int .i64) (.int .i64))) a.2]), (6, .box 108 (cellsX T108 b3_2.1)), (68, .arr 27 (.sl (.int .i64)) b3_2.2)], gt⟩) (fun b3_2 h => ?_) (fun hk_linealref05_Shows_k2 => ?_)
      ·as_aux_lemma =>
        unfold linealref05_Shows_k2 at h
        refine AW.ops ?_
        refine zA [(2, .bp 2 0), (3, .bp 3 0), (6, .bp 6 0), (7, .own 68)] [(2, .box 24 [.int .i64 c.1, .sl (.pair (.int .i64) (.pair (.int .i64) (.int .i64))) c.2]), (3, .box 24 [.int .i64 a.1, .sl (.pair (.int .i64) (.pair (.int .i64) (.int .i64))) a.2]), (6, .box 108 (cellsX T108 b3_2.1)), (68, .arr 27 (.sl (.int .i64)) b3_2.2)] ?_
        refine ablock_n ?_
        obtain rfl := Option.some.inj h
        exact ⟨_, rfl, zL [] [] [(23, 68)]⟩
      ·refine AW.seq ?_
       refine zo ?_
       refine zB [(2, .bp 2 0), (3, .bp 3 0), (6, .bp 6 0), (8, .cv (.slice none 0 0)), (27, .own 23), (28, .int .i64 (st1.2.length : Int)), (29, .int .i64 0)] [(2, .box 24 [.int .i64 c.1, .sl (.pair (.int .i64) (.pair (.int .i64) (.int .i64))) c.2]), (3, .box 24 [.int .i64 a.1, .sl (.pair (.int .i64) (.pair (.int .i64) (.int .i64))) a.2]), (6, .box 108 (cellsX T108 st1.1)), (23, .arr 27 (.sl (.int .i64)) st1.2)] ?_
       refine AW.block ?_
       obtain ⟨rv16, hw12, ho13⟩ := Option.bind_eq_some_iff.1 h
       refine AW.loopO (linealref05_Shows_b2 c a st1) (fun st2 => ⟨fr [(2, .bp 2 0), (3, .bp 3 0), (6, .bp 6 0), (8, .own 68), (27, .own 23), (28, .int .i64 (st1.2.length : Int)), (29, .int .i64 st2.2.2)], hpGet [(2, .box 24 [.int .i64 c.1, .sl (.pair (.int .i64) (.pair (.int .i64) (.int .i64))) c.2]), (3, .box 24 [.int .i64 a.1, .sl (.pair (.int .i64) (.pair (.int .i64) (.int .i64))) a.2]), (6, .box 108 (cellsX T108 st2.1)), (23, .arr 27 (.sl (.int .i64)) st1.2), (68, .arr 27 (.sl (.int .i64)) st2.2.1)], gt⟩) (st1.1, [], 0) hw12 (zL [] [68] []) ?_
       as_aux_lemma =>
        intro st2 x15 h hd14
        unfold linealref05_Shows_b2 at h
        refine zo ?_
        refine zB [(2, .bp 2 0), (3, .bp 3 0), (6, .bp 6 0), (8, .own 68), (27, .own 23), (28, .int .i64 (st1.2.length : Int)), (29, .int .i64 st2.2.2), (30, .bool (decide (st2.2.2 < (st1.2.length : Int))))] [(2, .box 24 [.int .i64 c.1, .sl (.pair (.int .i64) (.pair (.int .i64) (.int .i64))) c.2]), (3, .box 24 [.int .i64 a.1, .sl (.pair (.int .i64) (.pair (.int .i64) (.int .i64))) a.2]), (6, .box 108 (cellsX T108 st2.1)), (23, .arr 27 (.sl (.int .i64)) st1.2), (68, .arr 27 (.sl (.int .i64)) st2.2.1)] ?_
        refine AW.seq ?_
        refine zQ h (fun hb17 h => ?_) (fun hb17 h => ?_)
        ·refine zk ?_
         refine AW.have1 (fun b3 : (El T108) × (List (List Int)) => linealref05_Shows_k3 st2 b3 = some x15) (fun b3 => ⟨fr [(2, .bp 2 0), (3, .bp 3 0), (6, .bp 6 0), (8, .own 68), (27, .own 23), (28, .int .i64 (st1.2.length : Int)), (29, .int .i64 st2.2.2)], hpGet [(2, .box 24 [.int .i64 c.1, .sl (.pair (.int .i64) (.pair (.int .i64) (.int .i64))) c.2]), (3, .box 24 [.int .i64 a.1, .sl (.pair (.int .i64) (.pair (.int .i64) (.int .i64))) a.2]), (6, .box 108 (cellsX T108 b3.1)), (23, .arr 27 (.sl (.int .i64)) st1.2), (68, .arr 27 (.sl (.int .i64)) b3.2)], gt⟩) (fun b3 h => ?_) (fun hk_linealref05_Shows_k3 => ?_)
         ·as_aux_lemma =>
           unfold linealref05_Shows_k3 at h
           refine AW.ops ?_
           obtain ⟨c18, h⟩ := ck_some.1 h
           refine zA [(2, .bp 2 0), (3, .bp 3 0), (6, .bp 6 0), (8, .own 68), (27, .own 23), (28, .int .i64 (st1.2.length : Int)), (29, .int .i64 (st2.2.2 + 1))] [(2, .box 24 [.int .i64 c.1, .sl (.pair (.int .i64) (.pair (.int .i64) (.int .i64))) c.2]), (3, .box 24 [.int .i64 a.1, .sl (.pair (.int .i64) (.pair (.int .i64) (.int .i64))) a.2]), (6, .box 108 (cellsX T108 b3.1)), (23, .arr 27 (.sl (.int .i64)) st1.2), (68, .arr 27 (.sl (.int .i64)) b3.2)] ?_
           obtain rfl := Option.some.inj h
           exact ⟨_, rfl, zL [] [] []⟩
         ·refine AW.seq ?_
          refine AW.block ?_
          refine zo ?_
          obtain ⟨c19, h⟩ := ck_some.1 h
          obtain ⟨c20, h⟩ := ck_some.1 h
          refine zB [(2, .bp 2 0), (3, .bp 3 0), (6, .bp 6 0), (8, .own 68), (10, .sl (.int .i64) (st1.2.getD st2.2.2.toNat [])), (27, .own 23), (28, .int .i64 (st1.2.length : Int)), (29, .int .i64 st2.2.2)] [(2, .box 24 [.int .i64 c.1, .sl (.pair (.int .i64) (.pair (.int .i64) (.int .i64))) c.2]), (3, .box 24 [.int .i64 a.1, .sl (.pair (.int .i64) (.pair (.int .i64) (.int .i64))) a.2]), (6, .box 108 (cellsX T108 st2.1)), (23, .arr 27 (.sl (.int .i64)) st1.2), (68, .arr 27 (.sl (.int .i64)) st2.2.1)] ?_
          refine zo ?_
          refine zB [(2, .bp 2 0), (3, .bp 3 0), (6, .bp 6 0), (8, .own 68), (10, .sl (.int .i64) (st1.2.getD st2.2.2.toNat [])), (11, .int .i64 1), (27, .own 23), (28, .int .i64 (st1.2.length : Int)), (29, .int .i64 st2.2.2)] [(2, .box 24 [.int .i64 c.1, .sl (.pair (.int .i64) (.pair (.int .i64) (.int .i64))) c.2]), (3, .box 24 [.int .i64 a.1, .sl (.pair (.int .i64) (.pair (.int .i64) (.int .i64))) a.2]), (6, .box 108 (cellsX T108 st2.1)), (23, .arr 27 (.sl (.int .i64)) st1.2), (68, .arr 27 (.sl (.int .i64)) st2.2.1)] ?_
          refine AW.block ?_
          obtain ⟨rv25, hw21, ho22⟩ := Option.bind_eq_some_iff.1 h
          refine AW.loopO (linealref05_Shows_b3 c a st1 st2) (fun st3 => ⟨fr [(2, .bp 2 0), (3, .bp 3 0), (6, .bp 6 0), (8, .own 68), (10, .sl (.int .i64) (st1.2.getD st2.2.2.toNat [])), (11, .int .i64 st3.2.2), (27, .own 23), (28, .int .i64 (st1.2.length : Int)), (29, .int .i64 st2.2.2)], hpGet [(2, .box 24 [.int .i64 c.1, .sl (.pair (.int .i64) (.pair (.int .i64) (.int .i64))) c.2]), (3, .box 24 [.int .i64 a.1, .sl (.pair (.int .i64) (.pair (.int .i64) (.int .i64))) a.2]), (6, .box 108 (cellsX T108 st3.1)), (23, .arr 27 (.sl (.int .i64)) st1.2), (68, .arr 27 (.sl (.int .i64)) st3.2.1)], gt⟩) (st2.1, st2.2.1, 1) hw21 (zL [] [] []) ?_
          as_aux_lemma =>
           intro st3 x24 h hd23
           unfold linealref05_Shows_b3 at h
           refine AW.seq ?_
           refine zo ?_
           refine zB [(2, .bp 2 0), (3, .bp 3 0), (6, .bp 6 0), (8, .own 68), (10, .sl (.int .i64) (st1.2.getD st2.2.2.toNat [])), (11, .int .i64 st3.2.2), (27, .own 23), (28, .int .i64 (st1.2.length : Int)), (29, .int .i64 st2.2.2), (34, .bool (decide (st3.2.2 ≤ 3)))] [(2, .box 24 [.int .i64 c.1, .sl (.pair (.int .i64) (.pair (.int .i64) (.int .i64))) c.2]), (3, .box 24 [.int .i64 a.1, .sl (.pair (.int .i64) (.pair (.int .i64) (.int .i64))) a.2]), (6, .box 108 (cellsX T108 st3.1)), (23, .arr 27 (.sl (.int .i64)) st1.2), (68, .arr 27 (.sl (.int .i64)) st3.2.1)] ?_
           refine zQ h (fun hb26 h => ?_) (fun hb26 h => ?_)
           ·refine zk ?_
            refine AW.seq ?_
            refine AW.block ?_
            refine zo ?_
            obtain ⟨c27, h⟩ := ck_some.1 h
            refine zS 5 [(2, .bp 2 0), (3, .bp 3 0), (6, .bp 6 0), (8, .own 68), (10, .sl (.int .i64) (st1.2.getD st2.2.2.toNat [])), (11, .int .i64 st3.2.2), (27, .own 23), (28, .int .i64 (st1.2.length : Int)), (29, .int .i64 st2.2.2), (39, .own 39), (41, .own 41)] [(2, .box 24 [.int .i64 c.1, .sl (.pair (.int .i64) (.pair (.int .i64) (.int .i64))) c.2]), (3, .box 24 [.int .i64 a.1, .sl (.pair (.int .i64) (.pair (.int .i64) (.int .i64))) a.2]), (6, .box 108 (cellsX T108 st3.1)), (23, .arr 27 (.sl (.int .i64)) st1.2), (39, .arr 3 (.int .i64) (st1.2.getD st2.2.2.toNat [])), (41, .arr 3 (.int .i64) [st3.2.2]), (68, .arr 27 (.sl (.int .i64)) st3.2.1)] ?_
            obtain ⟨c28, h⟩ := ck_some.1 h
            refine zB [(2, .bp 2 0), (3, .bp 3 0), (6, .bp 6 0), (8, .own 68), (10, .sl (.int .i64) (st1.2.getD st2.2.2.toNat [])), (11, .int .i64 st3.2.2), (12, .own 42), (27, .own 23), (28, .int .i64 (st1.2.length : Int)), (29, .int .i64 st2.2.2)] [(2, .box 24 [.int .i64 c.1, .sl (.pair (.int .i64) (.pair (.int .i64) (.int .i64))) c.2]), (3, .box 24 [.int .i64 a.1, .sl (.pair (.int .i64) (.pair (.int .i64) (.int .i64))) a.2]), (6, .box 108 (cellsX T108 st3.1)), (23, .arr 27 (.sl (.int .i64)) st1.2), (42, .arr 3 (.int .i64) ((st1.2.getD st2.2.2.toNat []) ++ [st3.2.2])), (68, .arr 27 (.sl (.int .i64)) st3.2.1)] ?_
            refine AW.seq ?_
            refine AW.draw tab_ok mixed_ok [] [] (by decide) (by kernel_rfl) ?_
            as_aux_lemma =>
             refine adops_cut 2 (fun K' hK29 => ?_)
             try dsimp only [List.drop_succ_cons, List.drop_zero, List.take_succ_cons, List.take_zero]
             simp only [go_sem, hb2, hb5, hb11, hb17, hb26]
             repeat with_reducible refine zN ?_
             refine hK29 _ ?_
             as_aux_lemma =>
              obtain ⟨v0_3, hv30, h⟩ := Option.bind_eq_some_iff.1 h
              refine adops.call (by first | trivial | rfl) rfl rfl rfl (fun _ h => h) [42] [] (hc_linealref05_behind c ((st1.2.getD st2.2.2.toNat []) ++ [st3.2.2]) hv30) rfl (by (simp only [go_sem, hb2, hb5, hb11, hb17, hb26]) <;> (with_reducible and_intros) <;> first | assumption | rfl | omega | (unfold maxLen; omega)) (by (simp only [go_sem, hb2, hb5, hb11, hb17, hb26]) <;> (with_reducible and_intros) <;> first | assumption | rfl | omega | (unfold maxLen; omega)) rfl ?_
              refine adops_cut 2 (fun K' hK31 => ?_)
              try dsimp only [List.drop_succ_cons, List.drop_zero, List.take_succ_cons, List.take_zero]
              simp only [go_sem, hb2, hb5, hb11, hb17, hb26]
              repeat with_reducible refine zN ?_
              refine hK31 _ ?_
              as_aux_lemma =>
               obtain ⟨v0_4, hv32, h⟩ := Option.bind_eq_some_iff.1 h
               refine adops.call (by first | trivial | rfl) rfl rfl rfl (fun _ h => h) [42] [] (hc_linealref05_behind a ((st1.2.getD st2.2.2.toNat []) ++ [st3.2.2]) hv32) rfl (by (simp only [go_sem, hb2, hb5, hb11, hb17, hb26]) <;> (with_reducible and_intros) <;> first | assumption | rfl | omega | (unfold maxLen; omega)) (by (simp only [go_sem, hb2, hb5, hb11, hb17, hb26]) <;> (with_reducible and_intros) <;> first | assumption | rfl | omega | (unfold maxLen; omega)) rfl ?_
               refine adops_cut 2 (fun K' hK33 => ?_)
               try dsimp only [List.drop_succ_cons, List.drop_zero, List.take_succ_cons, List.take_zero]
               simp only [go_sem, hb2, hb5, hb11, hb17, hb26]
               repeat with_reducible refine zN ?_
               refine hK33 _ ?_
               refine adops_nil ?_
               refine athen_n ?_
               refine zV [(2, .bp 2 0), (3, .bp 3 0), (6, .bp 6 0), (8, .own 68), (10, .sl (.int .i64) (st1.2.getD st2.2.2.toNat [])), (11, .int .i64 st3.2.2), (12, .own 42), (13, .int .i64 v0_3), (14, .int .i64 v0_4), (27, .own 23), (28, .int .i64 (st1.2.length : Int)), (29, .int .i64 st2.2.2)] [(2, .box 24 [.int .i64 c.1, .sl (.pair (.int .i64) (.pair (.int .i64) (.int .i64))) c.2]), (3, .box 24 [.int .i64 a.1, .sl (.pair (.int .i64) (.pair (.int .i64) (.int .i64))) a.2]), (6, .box 108 (cellsX T108 st3.1)), (23, .arr 27 (.sl (.int .i64)) st1.2), (42, .arr 3 (.int .i64) ((st1.2.getD st2.2.2.toNat []) ++ [st3.2.2])), (68, .arr 27 (.sl (.int .i64)) st3.2.1)] gt ?_
               as_aux_lemma =>
                refine AW.seq ?_
                refine zo ?_
                refine zS 3 [(2, .bp 2 0), (3, .bp 3 0), (6, .bp 6 0), (8, .own 68), (10, .sl (.int .i64) (st1.2.getD st2.2.2.toNat [])), (11, .int .i64 st3.2.2), (12, .own 42), (13, .int .i64 v0_3), (14, .int .i64 v0_4), (27, .own 23), (28, .int .i64 (st1.2.length : Int)), (29, .int .i64 st2.2.2), (51, .bool (decide (v0_3 = 0)))] [(2, .box 24 [.int .i64 c.1, .sl (.pair (.int .i64) (.pair (.int .i64) (.int .i64))) c.2]), (3, .box 24 [.int .i64 a.1, .sl (.pair (.int .i64) (.pair (.int .i64) (.int .i64))) a.2]), (6, .box 108 (cellsX T108 st3.1)), (23, .arr 27 (.sl (.int .i64)) st1.2), (42, .arr 3 (.int .i64) ((st1.2.getD st2.2.2.toNat []) ++ [st3.2.2])), (68, .arr 27 (.sl (.int .i64)) st3.2.1)] ?_
                rcases zI h with ⟨hb34, h⟩ | ⟨hb34, h⟩
                ·refine zS 4 [(2, .bp 2 0), (3, .bp 3 0), (6, .bp 6 0), (8, .own 68), (10, .sl (.int .i64) (st1.2.getD st2.2.2.toNat [])), (11, .int .i64 st3.2.2), (12, .own 42), (13, .int .i64 v0_3), (14, .int .i64 v0_4), (27, .own 23), (28, .int .i64 (st1.2.length : Int)), (29, .int .i64 st2.2.2), (51, .bool true), (55, .cv (undef))] [(2, .box 24 [.int .i64 c.1, .sl (.pair (.int .i64) (.pair (.int .i64) (.int .i64))) c.2]), (3, .box 24 [.int .i64 a.1, .sl (.pair (.int .i64) (.pair (.int .i64) (.int .i64))) a.2]), (6, .box 108 (cellsX T108 st3.1)), (23, .arr 27 (.sl (.int .i64)) st1.2), (42, .arr 3 (.int .i64) ((st1.2.getD st2.2.2.toNat []) ++ [st3.2.2])), (68, .arr 27 (.sl (.int .i64)) st3.2.1)] ?_
                 refine zB [(2, .bp 2 0), (3, .bp 3 0), (6, .bp 6 0), (8, .own 68), (10, .sl (.int .i64) (st1.2.getD st2.2.2.toNat [])), (11, .int .i64 st3.2.2), (12, .own 42), (13, .int .i64 v0_3), (14, .int .i64 v0_4), (27, .own 23), (28, .int .i64 (st1.2.length : Int)), (29, .int .i64 st2.2.2), (57, .bool true)] [(2, .box 24 [.int .i64 c.1, .sl (.pair (.int .i64) (.pair (.int .i64) (.int .i64))) c.2]), (3, .box 24 [.int .i64 a.1, .sl (.pair (.int .i64) (.pair (.int .i64) (.int .i64))) a.2]), (6, .box 108 (cellsX T108 st3.1)), (23, .arr 27 (.sl (.int .i64)) st1.2), (42, .arr 3 (.int .i64) ((st1.2.getD st2.2.2.toNat []) ++ [st3.2.2])), (68, .arr 27 (.sl (.int .i64)) st3.2.1)] ?_
                 refine AW.cond (b := true) rfl (fun _ => ?_) (fun hb35 => by cases hb35)
                 refine AW.exit ?_
                 refine athen_e ?_
                 refine ablock_s ?_
                 refine athen_n ?_
                 refine AW.ops ?_
                 obtain ⟨c36, h⟩ := ck_some.1 h
                 refine zA [(2, .bp 2 0), (3, .bp 3 0), (6, .bp 6 0), (8, .own 68), (10, .sl (.int .i64) (st1.2.getD st2.2.2.toNat [])), (11, .int .i64 (st3.2.2 + 1)), (27, .own 23), (28, .int .i64 (st1.2.length : Int)), (29, .int .i64 st2.2.2)] [(2, .box 24 [.int .i64 c.1, .sl (.pair (.int .i64) (.pair (.int .i64) (.int .i64))) c.2]), (3, .box 24 [.int .i64 a.1, .sl (.pair (.int .i64) (.pair (.int .i64) (.int .i64))) a.2]), (6, .box 108 (cellsX T108 st3.1)), (23, .arr 27 (.sl (.int .i64)) st1.2), (68, .arr 27 (.sl (.int .i64)) st3.2.1)] ?_
                 obtain rfl := Option.some.inj h
                 exact ⟨_, rfl, zL [] [] []⟩
                ·obtain ⟨c37, h⟩ := ck_some.1 h
                 obtain ⟨c38, h⟩ := ck_some.1 h
                 obtain ⟨c39, h⟩ := ck_some.1 h
                 obtain ⟨c40, h⟩ := ck_some.1 h
                 have hx41 : ((0 + v0_3.toNat * 64) + v0_4.toNat * 1) < 4096 := by omega
                 refine zS 5 [(2, .bp 2 0), (3, .bp 3 0), (6, .bp 6 0), (8, .own 68), (10, .sl (.int .i64) (st1.2.getD st2.2.2.toNat [])), (11, .int .i64 st3.2.2), (12, .own 42), (13, .int .i64 v0_3), (14, .int .i64 v0_4), (27, .own 23), (28, .int .i64 (st1.2.length : Int)), (29, .int .i64 st2.2.2), (51, .bool false), (56, .bool (boolAt T108 st3.1 ((0 + v0_3.toNat * 64) + v0_4.toNat * 1)))] [(2, .box 24 [.int .i64 c.1, .sl (.pair (.int .i64) (.pair (.int .i64) (.int .i64))) c.2]), (3, .box 24 [.int .i64 a.1, .sl (.pair (.int .i64) (.pair (.int .i64) (.int .i64))) a.2]), (6, .box 108 (cellsX T108 st3.1)), (23, .arr 27 (.sl (.int .i64)) st1.2), (42, .arr 3 (.int .i64) ((st1.2.getD st2.2.2.toNat []) ++ [st3.2.2])), (68, .arr 27 (.sl (.int .i64)) st3.2.1)] ?_
                 refine zB [(2, .bp 2 0), (3, .bp 3 0), (6, .bp 6 0), (8, .own 68), (10, .sl (.int .i64) (st1.2.getD st2.2.2.toNat [])), (11, .int .i64 st3.2.2), (12, .own 42), (13, .int .i64 v0_3), (14, .int .i64 v0_4), (27, .own 23), (28, .int .i64 (st1.2.length : Int)), (29, .int .i64 st2.2.2), (57, .bool (boolAt T108 st3.1 ((0 + v0_3.toNat * 64) + v0_4.toNat * 1)))] [(2, .box 24 [.int .i64 c.1, .sl (.pair (.int .i64) (.pair (.int .i64) (.int .i64))) c.2]), (3, .box 24 [.int .i64 a.1, .sl (.pair (.int .i64) (.pair (.int .i64) (.int .i64))) a.2]), (6, .box 108 (cellsX T108 st3.1)), (23, .arr 27 (.sl (.int .i64)) st1.2), (42, .arr 3 (.int .i64) ((st1.2.getD st2.2.2.toNat []) ++ [st3.2.2])), (68, .arr 27 (.sl (.int .i64)) st3.2.1)] ?_
                 refine zQ h (fun hb42 h => ?_) (fun hb42 h => ?_)
                 ·refine AW.exit ?_
                  refine athen_e ?_
                  refine ablock_s ?_
                  refine athen_n ?_
                  refine AW.ops ?_
                  obtain ⟨c43, h⟩ := ck_some.1 h
                  refine zA [(2, .bp 2 0), (3, .bp 3 0), (6, .bp 6 0), (8, .own 68), (10, .sl (.int .i64) (st1.2.getD st2.2.2.toNat [])), (11, .int .i64 (st3.2.2 + 1)), (27, .own 23), (28, .int .i64 (st1.2.length : Int)), (29, .int .i64 st2.2.2)] [(2, .box 24 [.int .i64 c.1, .sl (.pair (.int .i64) (.pair (.int .i64) (.int .i64))) c.2]), (3, .box 24 [.int .i64 a.1, .sl (.pair (.int .i64) (.pair (.int .i64) (.int .i64))) a.2]), (6, .box 108 (cellsX T108 st3.1)), (23, .arr 27 (.sl (.int .i64)) st1.2), (68, .arr 27 (.sl (.int .i64)) st3.2.1)] ?_
                  obtain rfl := Option.some.inj h
                  exact ⟨_, rfl, zL [] [] []⟩
                 ·refine zk ?_
                  refine AW.seq ?_
                  refine zo ?_
                  refine zB [(2, .bp 2 0), (3, .bp 3 0), (6, .bp 6 0), (8, .own 68), (10, .sl (.int .i64) (st1.2.getD st2.2.2.toNat [])), (11, .int .i64 st3.2.2), (12, .own 42), (13, .int .i64 v0_3), (14, .int .i64 v0_4), (27, .own 23), (28, .int .i64 (st1.2.length : Int)), (29, .int .i64 st2.2.2), (59, .bool (decide (v0_4 = 0)))] [(2, .box 24 [.int .i64 c.1, .sl (.pair (.int .i64) (.pair (.int .i64) (.int .i64))) c.2]), (3, .box 24 [.int .i64 a.1, .sl (.pair (.int .i64) (.pair (.int .i64) (.int .i64))) a.2]), (6, .box 108 (cellsX T108 st3.1)), (23, .arr 27 (.sl (.int .i64)) st1.2), (42, .arr 3 (.int .i64) ((st1.2.getD st2.2.2.toNat []) ++ [st3.2.2])), (68, .arr 27 (.sl (.int .i64)) st3.2.1)] ?_
                  refine zQ h (fun hb44 h => ?_) (fun hb44 h => ?_)
                  ·refine zo ?_
                   refine zB [(4, .own 42), (5, .int .i64 0)] [(42, .arr 3 (.int .i64) ((st1.2.getD st2.2.2.toNat []) ++ [st3.2.2]))] ?_
                   refine zr ?_
                   refine ablock_r ?_
                   refine athen_r ?_
                   obtain rfl := Option.some.inj h
                   rw [← hd23 _ rfl] at ho22
                   have h := ho22
                   try simp only at h
                   refine athen_r ?_
                   refine ablock_r ?_
                   refine ablock_r ?_
                   refine athen_r ?_
                   obtain rfl := Option.some.inj h
                   rw [← hd14 _ rfl] at ho13
                   have h := ho13
                   try simp only at h
                   refine athen_r ?_
                   refine ablock_r ?_
                   refine athen_r ?_
                   refine ablock_r ?_
                   obtain rfl := Option.some.inj h
                   rw [← hd8 _ rfl] at ho7
                   have h := ho7
                   try simp only at h
                   refine athen_r ?_
                   refine ablock_r ?_
                   refine athen_r ?_
                   obtain rfl := Option.some.inj h
                   exact zR [] [] [(2000, 42)]
                  ·refine zk ?_
                   refine zo ?_
                   obtain ⟨c45, h⟩ := ck_some.1 h
                   obtain ⟨c46, h⟩ := ck_some.1 h
                   obtain ⟨c47, h⟩ := ck_some.1 h
                   obtain ⟨c48, h⟩ := ck_some.1 h
                   have hx49 : ((0 + v0_3.toNat * 64) + v0_4.toNat * 1) < 4096 := by omega
                   refine zB [(2, .bp 2 0), (3, .bp 3 0), (6, .bp 6 0), (8, .own 68), (10, .sl (.int .i64) (st1.2.getD st2.2.2.toNat [])), (11, .int .i64 st3.2.2), (12, .own 42), (27, .own 23), (28, .int .i64 (st1.2.length : Int)), (29, .int .i64 st2.2.2)] [(2, .box 24 [.int .i64 c.1, .sl (.pair (.int .i64) (.pair (.int .i64) (.int .i64))) c.2]), (3, .box 24 [.int .i64 a.1, .sl (.pair (.int .i64) (.pair (.int .i64) (.int .i64))) a.2]), (6, .box 108 (cellsX T108 (setBool T108 st3.1 ((0 + v0_3.toNat * 64) + v0_4.toNat * 1) true))), (23, .arr 27 (.sl (.int .i64)) st1.2), (42, .arr 3 (.int .i64) ((st1.2.getD st2.2.2.toNat []) ++ [st3.2.2])), (68, .arr 27 (.sl (.int .i64)) st3.2.1)] ?_
                   refine AW.ops ?_
                   obtain ⟨c50, h⟩ := ck_some.1 h
                   refine zA [(2, .bp 2 0), (3, .bp 3 0), (6, .bp 6 0), (8, .own 68), (10, .sl (.int .i64) (st1.2.getD st2.2.2.toNat [])), (11, .int .i64 st3.2.2), (27, .own 23), (28, .int .i64 (st1.2.length : Int)), (29, .int .i64 st2.2.2)] [(2, .box 24 [.int .i64 c.1, .sl (.pair (.int .i64) (.pair (.int .i64) (.int .i64))) c.2]), (3, .box 24 [.int .i64 a.1, .sl (.pair (.int .i64) (.pair (.int .i64) (.int .i64))) a.2]), (6, .box 108 (cellsX T108 (setBool T108 st3.1 ((0 + v0_3.toNat * 64) + v0_4.toNat * 1) true))), (23, .arr 27 (.sl (.int .i64)) st1.2), (68, .arr 27 (.sl (.int .i64)) (st3.2.1 ++ [((st1.2.getD st2.2.2.toNat []) ++ [st3.2.2])]))] ?_
                   refine ablock_n ?_
                   refine athen_n ?_
                   refine AW.ops ?_
                   obtain ⟨c51, h⟩ := ck_some.1 h
                   refine zA [(2, .bp 2 0), (3, .bp 3 0), (6, .bp 6 0), (8, .own 68), (10, .sl (.int .i64) (st1.2.getD st2.2.2.toNat [])), (11, .int .i64 (st3.2.2 + 1)), (27, .own 23), (28, .int .i64 (st1.2.length : Int)), (29, .int .i64 st2.2.2)] [(2, .box 24 [.int .i64 c.1, .sl (.pair (.int .i64) (.pair (.int .i64) (.int .i64))) c.2]), (3, .box 24 [.int .i64 a.1, .sl (.pair (.int .i64) (.pair (.int .i64) (.int .i64))) a.2]), (6, .box 108 (cellsX T108 (setBool T108 st3.1 ((0 + v0_3.toNat * 64) + v0_4.toNat * 1) true))), (23, .arr 27 (.sl (.int .i64)) st1.2), (68, .arr 27 (.sl (.int .i64)) (st3.2.1 ++ [((st1.2.getD st2.2.2.toNat []) ++ [st3.2.2])]))] ?_
                   obtain rfl := Option.some.inj h
                   exact ⟨_, rfl, zL [] [] []⟩
           ·refine AW.exit ?_
            refine athen_e ?_
            obtain rfl := Option.some.inj h
            rw [← hd23 _ rfl] at ho22
            have h := ho22
            try simp only at h
            refine athen_e ?_
            refine ablock_s ?_
            refine ablock_n ?_
            refine athen_n ?_
            exact AW.weaken (zL [] [] []) (hk_linealref05_Shows_k3 _ h)
        ·refine AW.exit ?_
         refine athen_e ?_
         obtain rfl := Option.some.inj h
         rw [← hd14 _ rfl] at ho13
         have h := ho13
         try simp only at h
         refine athen_e ?_
         refine ablock_s ?_
         refine athen_n ?_
         exact AW.weaken (zL [] [] []) (hk_linealref05_Shows_k2 _ h)
     ·refine AW.exit ?_
      refine athen_e ?_
      obtain rfl := Option.some.inj h
      rw [← hd8 _ rfl] at ho7
      have h := ho7
      try simp only at h
      refine athen_e ?_
      refine ablock_s ?_
      refine athen_n ?_
      exact AW.weaken (zL [] [] []) (hk_linealref05_Shows_k1 () h)

end Go.Proofs.Ytljonmpcehlpaaa
