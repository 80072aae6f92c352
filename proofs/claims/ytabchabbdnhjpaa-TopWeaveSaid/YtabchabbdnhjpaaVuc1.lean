/-
  Made by wip/tool/dc.py out of the print of the program: contracts.
-/
import Derived.Test.YtabchabbdnhjpaaVp
import Derived.Test.YtabchabbdnhjpaaSh6
import Derived.Test.YtabchabbdnhjpaaAvd
namespace Go.Proofs.Ytabchabbdnhjpaa
open Go.RowKit

set_option linter.unusedSimpArgs false
set_option linter.unusedVariables false
set_option linter.constructorNameAsVariable false

set_option maxRecDepth 100000
set_option maxHeartbeats 2000000

theorem hc_weave_tiesOf (l : Int × (List (Int × Int))) {r : (El T53) × Bool} (h : weave_tiesOf l = some r) : HC Try.prog 57 [] [.agg [.int .i64 l.1, .sl (.pair (.int .i64) (.int .i64)) l.2]] [] (.tup [.agg (cellsX T53 r.1), .bool r.2]) := by
 unfold weave_tiesOf at h
 refine zH Try.func57 [.cell 2 53, .tmp 3] 69 ?_
 refine zo ?_
 refine zB [(1, .bp 1 0), (2, .bp 2 0)] [(1, .box 24 [.int .i64 l.1, .sl (.pair (.int .i64) (.int .i64)) l.2]), (2, .box 53 (cellsX T53 (Ty.dflt T53)))] ?_
 refine zo ?_
 refine zB [(1, .bp 1 0), (2, .bp 2 0), (4, .bp 4 0)] [(1, .box 24 [.int .i64 l.1, .sl (.pair (.int .i64) (.int .i64)) l.2]), (2, .box 53 (cellsX T53 (Ty.dflt T53))), (4, .box 53 (cellsX T53 (Ty.dflt T53)))] ?_
 refine AW.seq ?_
 refine zo ?_
 refine zS 4 [(1, .bp 1 0), (2, .bp 2 0), (4, .bp 4 0), (13, .bool (decide (l.1 < 1)))] [(1, .box 24 [.int .i64 l.1, .sl (.pair (.int .i64) (.int .i64)) l.2]), (2, .box 53 (cellsX T53 (Ty.dflt T53))), (4, .box 53 (cellsX T53 (Ty.dflt T53)))] ?_
 rcases zI h with ⟨hb1, h⟩ | ⟨hb1, h⟩
 ·refine zB [(1, .bp 1 0), (2, .bp 2 0), (4, .bp 4 0), (17, .bool true)] [(1, .box 24 [.int .i64 l.1, .sl (.pair (.int .i64) (.int .i64)) l.2]), (2, .box 53 (cellsX T53 (Ty.dflt T53))), (4, .box 53 (cellsX T53 (Ty.dflt T53)))] ?_
  refine AW.cond (b := true) rfl (fun _ => ?_) (fun hb2 => by cases hb2)
  refine zo ?_
  refine zB [(2, .bp 2 0), (3, .bool false)] [(2, .box 53 (cellsX T53 (Ty.dflt T53)))] ?_
  refine zr ?_
  obtain rfl := Option.some.inj h
  exact zR [] [] []
 ·refine zB [(1, .bp 1 0), (2, .bp 2 0), (4, .bp 4 0), (17, .bool (decide (6 < l.1)))] [(1, .box 24 [.int .i64 l.1, .sl (.pair (.int .i64) (.int .i64)) l.2]), (2, .box 53 (cellsX T53 (Ty.dflt T53))), (4, .box 53 (cellsX T53 (Ty.dflt T53)))] ?_
  refine zQ h (fun hb3 h => ?_) (fun hb3 h => ?_)
  ·refine zo ?_
   refine zB [(2, .bp 2 0), (3, .bool false)] [(2, .box 53 (cellsX T53 (Ty.dflt T53)))] ?_
   refine zr ?_
   obtain rfl := Option.some.inj h
   exact zR [] [] []
  ·refine zk ?_
   refine AW.have1 (fun b1 : (El T53) => weave_tiesOf_k1 l b1 = some r) (fun b1 => ⟨fr [(1, .bp 1 0), (2, .bp 2 0), (4, .bp 4 0)], hpGet [(1, .box 24 [.int .i64 l.1, .sl (.pair (.int .i64) (.int .i64)) l.2]), (2, .box 53 (cellsX T53 (Ty.dflt T53))), (4, .box 53 (cellsX T53 b1))], gt⟩) (fun b1 h => ?_) (fun hk_weave_tiesOf_k1 => ?_)
   ·as_aux_lemma =>
     unfold weave_tiesOf_k1 at h
     refine AW.have1 (fun b2 : (El T53) => weave_tiesOf_k2 b2 = some r) (fun b2 => ⟨fr [(2, .bp 2 0), (4, .bp 4 0)], hpGet [(2, .box 53 (cellsX T53 (Ty.dflt T53))), (4, .box 53 (cellsX T53 b2))], gt⟩) (fun b2 h => ?_) (fun hk_weave_tiesOf_k2 => ?_)
     ·as_aux_lemma =>
       unfold weave_tiesOf_k2 at h
       refine zo ?_
       refine zB [(2, .bp 2 0), (3, .bool true)] [(2, .box 53 (cellsX T53 b2))] ?_
       refine AW.ret ?_
       obtain rfl := Option.some.inj h
       exact zR [] [] []
     ·refine AW.seq ?_
      refine zo ?_
      refine zB [(1, .bp 1 0), (2, .bp 2 0), (4, .bp 4 0), (28, .sl (.pair (.int .i64) (.int .i64)) l.2), (29, .int .i64 (l.2.length : Int)), (30, .int .i64 0)] [(1, .box 24 [.int .i64 l.1, .sl (.pair (.int .i64) (.int .i64)) l.2]), (2, .box 53 (cellsX T53 (Ty.dflt T53))), (4, .box 53 (cellsX T53 b1))] ?_
      refine AW.block ?_
      obtain ⟨rv8, hw4, ho5⟩ := Option.bind_eq_some_iff.1 h
      refine AW.loopO (weave_tiesOf_b2 l) (fun st2 => ⟨fr [(1, .bp 1 0), (2, .bp 2 0), (4, .bp 4 0), (28, .sl (.pair (.int .i64) (.int .i64)) l.2), (29, .int .i64 (l.2.length : Int)), (30, .int .i64 st2.2)], hpGet [(1, .box 24 [.int .i64 l.1, .sl (.pair (.int .i64) (.int .i64)) l.2]), (2, .box 53 (cellsX T53 (Ty.dflt T53))), (4, .box 53 (cellsX T53 st2.1))], gt⟩) (b1, 0) hw4 (zL [] [] []) ?_
      as_aux_lemma =>
       intro st2 x7 h hd6
       unfold weave_tiesOf_b2 at h
       refine zo ?_
       refine zB [(1, .bp 1 0), (2, .bp 2 0), (4, .bp 4 0), (28, .sl (.pair (.int .i64) (.int .i64)) l.2), (29, .int .i64 (l.2.length : Int)), (30, .int .i64 st2.2), (31, .bool (decide (st2.2 < (l.2.length : Int))))] [(1, .box 24 [.int .i64 l.1, .sl (.pair (.int .i64) (.int .i64)) l.2]), (2, .box 53 (cellsX T53 (Ty.dflt T53))), (4, .box 53 (cellsX T53 st2.1))] ?_
       refine AW.seq ?_
       refine zQ h (fun hb9 h => ?_) (fun hb9 h => ?_)
       ·refine zk ?_
        refine AW.seq ?_
        refine AW.block ?_
        refine zo ?_
        obtain ⟨c10, h⟩ := ck_some.1 h
        obtain ⟨c11, h⟩ := ck_some.1 h
        refine zB [(1, .bp 1 0), (2, .bp 2 0), (4, .bp 4 0), (7, .bp 7 0), (28, .sl (.pair (.int .i64) (.int .i64)) l.2), (29, .int .i64 (l.2.length : Int)), (30, .int .i64 st2.2)] [(1, .box 24 [.int .i64 l.1, .sl (.pair (.int .i64) (.int .i64)) l.2]), (2, .box 53 (cellsX T53 (Ty.dflt T53))), (4, .box 53 (cellsX T53 st2.1)), (7, .box 50 [.int .i64 (l.2.getD st2.2.toNat (0, 0)).1, .int .i64 (l.2.getD st2.2.toNat (0, 0)).2])] ?_
        refine AW.seq ?_
        refine AW.draw tab_ok mixed_ok [] [] (by decide) (by kernel_rfl) ?_
        as_aux_lemma =>
         refine adops_cut 6 (fun K' hK12 => ?_)
         try dsimp only [List.drop_succ_cons, List.drop_zero, List.take_succ_cons, List.take_zero]
         simp only [go_sem, hb1, hb3, hb9]
         repeat with_reducible refine zN ?_
         refine hK12 _ ?_
         refine adops_nil ?_
         refine athen_n ?_
         refine zV [(1, .bp 1 0), (2, .bp 2 0), (4, .bp 4 0), (8, .int .i64 (l.2.getD st2.2.toNat (0, 0)).1), (9, .int .i64 (l.2.getD st2.2.toNat (0, 0)).2), (28, .sl (.pair (.int .i64) (.int .i64)) l.2), (29, .int .i64 (l.2.length : Int)), (30, .int .i64 st2.2)] [(1, .box 24 [.int .i64 l.1, .sl (.pair (.int .i64) (.int .i64)) l.2]), (2, .box 53 (cellsX T53 (Ty.dflt T53))), (4, .box 53 (cellsX T53 st2.1))] gt ?_
         as_aux_lemma =>
          refine AW.seq ?_
          refine zo ?_
          refine zS 3 [(1, .bp 1 0), (2, .bp 2 0), (4, .bp 4 0), (8, .int .i64 (l.2.getD st2.2.toNat (0, 0)).1), (9, .int .i64 (l.2.getD st2.2.toNat (0, 0)).2), (28, .sl (.pair (.int .i64) (.int .i64)) l.2), (29, .int .i64 (l.2.length : Int)), (30, .int .i64 st2.2), (40, .bool (decide ((l.2.getD st2.2.toNat (0, 0)).1 < 0)))] [(1, .box 24 [.int .i64 l.1, .sl (.pair (.int .i64) (.int .i64)) l.2]), (2, .box 53 (cellsX T53 (Ty.dflt T53))), (4, .box 53 (cellsX T53 st2.1))] ?_
          rcases zI h with ⟨hb13, h⟩ | ⟨hb13, h⟩
          ·refine zS 5 [(1, .bp 1 0), (2, .bp 2 0), (4, .bp 4 0), (8, .int .i64 (l.2.getD st2.2.toNat (0, 0)).1), (9, .int .i64 (l.2.getD st2.2.toNat (0, 0)).2), (28, .sl (.pair (.int .i64) (.int .i64)) l.2), (29, .int .i64 (l.2.length : Int)), (30, .int .i64 st2.2), (45, .bool true)] [(1, .box 24 [.int .i64 l.1, .sl (.pair (.int .i64) (.int .i64)) l.2]), (2, .box 53 (cellsX T53 (Ty.dflt T53))), (4, .box 53 (cellsX T53 st2.1))] ?_
           refine zS 4 [(1, .bp 1 0), (2, .bp 2 0), (4, .bp 4 0), (8, .int .i64 (l.2.getD st2.2.toNat (0, 0)).1), (9, .int .i64 (l.2.getD st2.2.toNat (0, 0)).2), (28, .sl (.pair (.int .i64) (.int .i64)) l.2), (29, .int .i64 (l.2.length : Int)), (30, .int .i64 st2.2), (45, .bool true), (49, .cv (undef))] [(1, .box 24 [.int .i64 l.1, .sl (.pair (.int .i64) (.int .i64)) l.2]), (2, .box 53 (cellsX T53 (Ty.dflt T53))), (4, .box 53 (cellsX T53 st2.1))] ?_
           refine zS 5 [(1, .bp 1 0), (2, .bp 2 0), (4, .bp 4 0), (8, .int .i64 (l.2.getD st2.2.toNat (0, 0)).1), (9, .int .i64 (l.2.getD st2.2.toNat (0, 0)).2), (28, .sl (.pair (.int .i64) (.int .i64)) l.2), (29, .int .i64 (l.2.length : Int)), (30, .int .i64 st2.2), (51, .bool true), (53, .cv (undef)), (54, .cv (undef))] [(1, .box 24 [.int .i64 l.1, .sl (.pair (.int .i64) (.int .i64)) l.2]), (2, .box 53 (cellsX T53 (Ty.dflt T53))), (4, .box 53 (cellsX T53 st2.1))] ?_
           refine zB [(1, .bp 1 0), (2, .bp 2 0), (4, .bp 4 0), (8, .int .i64 (l.2.getD st2.2.toNat (0, 0)).1), (9, .int .i64 (l.2.getD st2.2.toNat (0, 0)).2), (28, .sl (.pair (.int .i64) (.int .i64)) l.2), (29, .int .i64 (l.2.length : Int)), (30, .int .i64 st2.2), (57, .bool true)] [(1, .box 24 [.int .i64 l.1, .sl (.pair (.int .i64) (.int .i64)) l.2]), (2, .box 53 (cellsX T53 (Ty.dflt T53))), (4, .box 53 (cellsX T53 st2.1))] ?_
           refine AW.cond (b := true) rfl (fun _ => ?_) (fun hb14 => by cases hb14)
           refine zo ?_
           refine zB [(2, .bp 2 0), (3, .bool false)] [(2, .box 53 (cellsX T53 (Ty.dflt T53)))] ?_
           refine zr ?_
           refine ablock_r ?_
           refine athen_r ?_
           obtain rfl := Option.some.inj h
           rw [← hd6 _ rfl] at ho5
           have h := ho5
           try simp only at h
           refine athen_r ?_
           refine ablock_r ?_
           refine athen_r ?_
           obtain rfl := Option.some.inj h
           exact zR [] [] []
          ·refine zS 5 [(1, .bp 1 0), (2, .bp 2 0), (4, .bp 4 0), (8, .int .i64 (l.2.getD st2.2.toNat (0, 0)).1), (9, .int .i64 (l.2.getD st2.2.toNat (0, 0)).2), (28, .sl (.pair (.int .i64) (.int .i64)) l.2), (29, .int .i64 (l.2.length : Int)), (30, .int .i64 st2.2), (45, .bool (decide ((l.2.getD st2.2.toNat (0, 0)).2 ≤ (l.2.getD st2.2.toNat (0, 0)).1)))] [(1, .box 24 [.int .i64 l.1, .sl (.pair (.int .i64) (.int .i64)) l.2]), (2, .box 53 (cellsX T53 (Ty.dflt T53))), (4, .box 53 (cellsX T53 st2.1))] ?_
           rcases zI h with ⟨hb15, h⟩ | ⟨hb15, h⟩
           ·refine zS 4 [(1, .bp 1 0), (2, .bp 2 0), (4, .bp 4 0), (8, .int .i64 (l.2.getD st2.2.toNat (0, 0)).1), (9, .int .i64 (l.2.getD st2.2.toNat (0, 0)).2), (28, .sl (.pair (.int .i64) (.int .i64)) l.2), (29, .int .i64 (l.2.length : Int)), (30, .int .i64 st2.2), (45, .bool true), (49, .cv (undef))] [(1, .box 24 [.int .i64 l.1, .sl (.pair (.int .i64) (.int .i64)) l.2]), (2, .box 53 (cellsX T53 (Ty.dflt T53))), (4, .box 53 (cellsX T53 st2.1))] ?_
            refine zS 5 [(1, .bp 1 0), (2, .bp 2 0), (4, .bp 4 0), (8, .int .i64 (l.2.getD st2.2.toNat (0, 0)).1), (9, .int .i64 (l.2.getD st2.2.toNat (0, 0)).2), (28, .sl (.pair (.int .i64) (.int .i64)) l.2), (29, .int .i64 (l.2.length : Int)), (30, .int .i64 st2.2), (51, .bool true), (53, .cv (undef)), (54, .cv (undef))] [(1, .box 24 [.int .i64 l.1, .sl (.pair (.int .i64) (.int .i64)) l.2]), (2, .box 53 (cellsX T53 (Ty.dflt T53))), (4, .box 53 (cellsX T53 st2.1))] ?_
            refine zB [(1, .bp 1 0), (2, .bp 2 0), (4, .bp 4 0), (8, .int .i64 (l.2.getD st2.2.toNat (0, 0)).1), (9, .int .i64 (l.2.getD st2.2.toNat (0, 0)).2), (28, .sl (.pair (.int .i64) (.int .i64)) l.2), (29, .int .i64 (l.2.length : Int)), (30, .int .i64 st2.2), (57, .bool true)] [(1, .box 24 [.int .i64 l.1, .sl (.pair (.int .i64) (.int .i64)) l.2]), (2, .box 53 (cellsX T53 (Ty.dflt T53))), (4, .box 53 (cellsX T53 st2.1))] ?_
            refine AW.cond (b := true) rfl (fun _ => ?_) (fun hb16 => by cases hb16)
            refine zo ?_
            refine zB [(2, .bp 2 0), (3, .bool false)] [(2, .box 53 (cellsX T53 (Ty.dflt T53)))] ?_
            refine zr ?_
            refine ablock_r ?_
            refine athen_r ?_
            obtain rfl := Option.some.inj h
            rw [← hd6 _ rfl] at ho5
            have h := ho5
            try simp only at h
            refine athen_r ?_
            refine ablock_r ?_
            refine athen_r ?_
            obtain rfl := Option.some.inj h
            exact zR [] [] []
           ·refine zS 5 [(1, .bp 1 0), (2, .bp 2 0), (4, .bp 4 0), (8, .int .i64 (l.2.getD st2.2.toNat (0, 0)).1), (9, .int .i64 (l.2.getD st2.2.toNat (0, 0)).2), (28, .sl (.pair (.int .i64) (.int .i64)) l.2), (29, .int .i64 (l.2.length : Int)), (30, .int .i64 st2.2), (50, .bool (decide (l.1 ≤ (l.2.getD st2.2.toNat (0, 0)).2)))] [(1, .box 24 [.int .i64 l.1, .sl (.pair (.int .i64) (.int .i64)) l.2]), (2, .box 53 (cellsX T53 (Ty.dflt T53))), (4, .box 53 (cellsX T53 st2.1))] ?_
            refine zS 1 [(1, .bp 1 0), (2, .bp 2 0), (4, .bp 4 0), (8, .int .i64 (l.2.getD st2.2.toNat (0, 0)).1), (9, .int .i64 (l.2.getD st2.2.toNat (0, 0)).2), (28, .sl (.pair (.int .i64) (.int .i64)) l.2), (29, .int .i64 (l.2.length : Int)), (30, .int .i64 st2.2), (51, .bool (decide (l.1 ≤ (l.2.getD st2.2.toNat (0, 0)).2)))] [(1, .box 24 [.int .i64 l.1, .sl (.pair (.int .i64) (.int .i64)) l.2]), (2, .box 53 (cellsX T53 (Ty.dflt T53))), (4, .box 53 (cellsX T53 st2.1))] ?_
            rcases zI h with ⟨hb17, h⟩ | ⟨hb17, h⟩
            ·refine zS 4 [(1, .bp 1 0), (2, .bp 2 0), (4, .bp 4 0), (8, .int .i64 (l.2.getD st2.2.toNat (0, 0)).1), (9, .int .i64 (l.2.getD st2.2.toNat (0, 0)).2), (28, .sl (.pair (.int .i64) (.int .i64)) l.2), (29, .int .i64 (l.2.length : Int)), (30, .int .i64 st2.2), (51, .bool true), (55, .cv (undef))] [(1, .box 24 [.int .i64 l.1, .sl (.pair (.int .i64) (.int .i64)) l.2]), (2, .box 53 (cellsX T53 (Ty.dflt T53))), (4, .box 53 (cellsX T53 st2.1))] ?_
             refine zB [(1, .bp 1 0), (2, .bp 2 0), (4, .bp 4 0), (8, .int .i64 (l.2.getD st2.2.toNat (0, 0)).1), (9, .int .i64 (l.2.getD st2.2.toNat (0, 0)).2), (28, .sl (.pair (.int .i64) (.int .i64)) l.2), (29, .int .i64 (l.2.length : Int)), (30, .int .i64 st2.2), (57, .bool true)] [(1, .box 24 [.int .i64 l.1, .sl (.pair (.int .i64) (.int .i64)) l.2]), (2, .box 53 (cellsX T53 (Ty.dflt T53))), (4, .box 53 (cellsX T53 st2.1))] ?_
             refine AW.cond (b := true) rfl (fun _ => ?_) (fun hb18 => by cases hb18)
             refine zo ?_
             refine zB [(2, .bp 2 0), (3, .bool false)] [(2, .box 53 (cellsX T53 (Ty.dflt T53)))] ?_
             refine zr ?_
             refine ablock_r ?_
             refine athen_r ?_
             obtain rfl := Option.some.inj h
             rw [← hd6 _ rfl] at ho5
             have h := ho5
             try simp only at h
             refine athen_r ?_
             refine ablock_r ?_
             refine athen_r ?_
             obtain rfl := Option.some.inj h
             exact zR [] [] []
            ·obtain ⟨c19, h⟩ := ck_some.1 h
             obtain ⟨c20, h⟩ := ck_some.1 h
             obtain ⟨c21, h⟩ := ck_some.1 h
             obtain ⟨c22, h⟩ := ck_some.1 h
             have hx23 : ((0 + (l.2.getD st2.2.toNat (0, 0)).1.toNat * 6) + (l.2.getD st2.2.toNat (0, 0)).2.toNat * 1) < 36 := by omega
             refine zS 5 [(1, .bp 1 0), (2, .bp 2 0), (4, .bp 4 0), (8, .int .i64 (l.2.getD st2.2.toNat (0, 0)).1), (9, .int .i64 (l.2.getD st2.2.toNat (0, 0)).2), (28, .sl (.pair (.int .i64) (.int .i64)) l.2), (29, .int .i64 (l.2.length : Int)), (30, .int .i64 st2.2), (51, .bool false), (56, .bool (boolAt T53 st2.1 ((0 + (l.2.getD st2.2.toNat (0, 0)).1.toNat * 6) + (l.2.getD st2.2.toNat (0, 0)).2.toNat * 1)))] [(1, .box 24 [.int .i64 l.1, .sl (.pair (.int .i64) (.int .i64)) l.2]), (2, .box 53 (cellsX T53 (Ty.dflt T53))), (4, .box 53 (cellsX T53 st2.1))] ?_
             refine zB [(1, .bp 1 0), (2, .bp 2 0), (4, .bp 4 0), (8, .int .i64 (l.2.getD st2.2.toNat (0, 0)).1), (9, .int .i64 (l.2.getD st2.2.toNat (0, 0)).2), (28, .sl (.pair (.int .i64) (.int .i64)) l.2), (29, .int .i64 (l.2.length : Int)), (30, .int .i64 st2.2), (57, .bool (boolAt T53 st2.1 ((0 + (l.2.getD st2.2.toNat (0, 0)).1.toNat * 6) + (l.2.getD st2.2.toNat (0, 0)).2.toNat * 1)))] [(1, .box 24 [.int .i64 l.1, .sl (.pair (.int .i64) (.int .i64)) l.2]), (2, .box 53 (cellsX T53 (Ty.dflt T53))), (4, .box 53 (cellsX T53 st2.1))] ?_
             refine zQ h (fun hb24 h => ?_) (fun hb24 h => ?_)
             ·refine zo ?_
              refine zB [(2, .bp 2 0), (3, .bool false)] [(2, .box 53 (cellsX T53 (Ty.dflt T53)))] ?_
              refine zr ?_
              refine ablock_r ?_
              refine athen_r ?_
              obtain rfl := Option.some.inj h
              rw [← hd6 _ rfl] at ho5
              have h := ho5
              try simp only at h
              refine athen_r ?_
              refine ablock_r ?_
              refine athen_r ?_
              obtain rfl := Option.some.inj h
              exact zR [] [] []
             ·refine zk ?_
              refine AW.draw tab_ok mixed_ok [(6, [4]), (9, [4])] [(2, []), (3, []), (7, [4, 999999]), (100006, []), (100009, [])] (by decide) (lex_fast (by kernel_rfl)) ?_
              as_aux_lemma =>
               obtain ⟨c26, h⟩ := ck_some.1 h
               obtain ⟨c27, h⟩ := ck_some.1 h
               obtain ⟨c28, h⟩ := ck_some.1 h
               obtain ⟨c29, h⟩ := ck_some.1 h
               refine adops_cut 6 (fun K' hK25 => ?_)
               try dsimp only [List.drop_succ_cons, List.drop_zero, List.take_succ_cons, List.take_zero]
               simp only [go_sem, hb1, hb3, hb9, hb13, hb15, hb17, hx23, hb24]
               repeat with_reducible refine zN ?_
               refine hK25 _ ?_
               as_aux_lemma =>
                have hx31 : ((0 + (l.2.getD st2.2.toNat (0, 0)).1.toNat * 6) + (l.2.getD st2.2.toNat (0, 0)).2.toNat * 1) < 36 := by omega
                obtain ⟨c32, h⟩ := ck_some.1 h
                obtain ⟨c33, h⟩ := ck_some.1 h
                obtain ⟨c34, h⟩ := ck_some.1 h
                obtain ⟨c35, h⟩ := ck_some.1 h
                have hx36 : ((0 + (l.2.getD st2.2.toNat (0, 0)).2.toNat * 6) + (l.2.getD st2.2.toNat (0, 0)).1.toNat * 1) < 36 := by omega
                refine adops_cut 4 (fun K' hK30 => ?_)
                try dsimp only [List.drop_succ_cons, List.drop_zero, List.take_succ_cons, List.take_zero]
                simp only [go_sem, hb1, hb3, hb9, hb13, hb15, hb17, hx23, hb24, hx31, hx36]
                repeat with_reducible refine zN ?_
                refine hK30 _ ?_
                refine adops_nil ?_
                refine ablock_n ?_
                refine athen_n ?_
                refine zV [(1, .bp 1 0), (2, .bp 2 0), (4, .bp 4 0), (28, .sl (.pair (.int .i64) (.int .i64)) l.2), (29, .int .i64 (l.2.length : Int)), (30, .int .i64 st2.2)] [(1, .box 24 [.int .i64 l.1, .sl (.pair (.int .i64) (.int .i64)) l.2]), (2, .box 53 (cellsX T53 (Ty.dflt T53))), (4, .box 53 (cellsX T53 (setBool T53 (setBool T53 st2.1 ((0 + (l.2.getD st2.2.toNat (0, 0)).1.toNat * 6) + (l.2.getD st2.2.toNat (0, 0)).2.toNat * 1) true) ((0 + (l.2.getD st2.2.toNat (0, 0)).2.toNat * 6) + (l.2.getD st2.2.toNat (0, 0)).1.toNat * 1) true)))] gt ?_
                as_aux_lemma =>
                 refine AW.ops ?_
                 obtain ⟨c37, h⟩ := ck_some.1 h
                 refine zA [(1, .bp 1 0), (2, .bp 2 0), (4, .bp 4 0), (28, .sl (.pair (.int .i64) (.int .i64)) l.2), (29, .int .i64 (l.2.length : Int)), (30, .int .i64 (st2.2 + 1))] [(1, .box 24 [.int .i64 l.1, .sl (.pair (.int .i64) (.int .i64)) l.2]), (2, .box 53 (cellsX T53 (Ty.dflt T53))), (4, .box 53 (cellsX T53 (setBool T53 (setBool T53 st2.1 ((0 + (l.2.getD st2.2.toNat (0, 0)).1.toNat * 6) + (l.2.getD st2.2.toNat (0, 0)).2.toNat * 1) true) ((0 + (l.2.getD st2.2.toNat (0, 0)).2.toNat * 6) + (l.2.getD st2.2.toNat (0, 0)).1.toNat * 1) true)))] ?_
                 obtain rfl := Option.some.inj h
                 exact ⟨_, rfl, zL [] [] []⟩
       ·refine AW.exit ?_
        refine athen_e ?_
        obtain rfl := Option.some.inj h
        rw [← hd6 _ rfl] at ho5
        have h := ho5
        try simp only at h
        refine athen_e ?_
        refine ablock_s ?_
        refine athen_n ?_
        exact AW.weaken (zL [] [] []) (hk_weave_tiesOf_k2 _ h)
   ·refine AW.seq ?_
    refine zo ?_
    refine zB [(1, .bp 1 0), (2, .bp 2 0), (4, .bp 4 0), (19, .int .i64 0)] [(1, .box 24 [.int .i64 l.1, .sl (.pair (.int .i64) (.int .i64)) l.2]), (2, .box 53 (cellsX T53 (Ty.dflt T53))), (4, .box 53 (cellsX T53 (Ty.dflt T53)))] ?_
    refine AW.block ?_
    obtain ⟨rv42, hw38, ho39⟩ := Option.bind_eq_some_iff.1 h
    refine AW.loopO (weave_tiesOf_b1) (fun st1 => ⟨fr [(1, .bp 1 0), (2, .bp 2 0), (4, .bp 4 0), (19, .int .i64 st1.2)], hpGet [(1, .box 24 [.int .i64 l.1, .sl (.pair (.int .i64) (.int .i64)) l.2]), (2, .box 53 (cellsX T53 (Ty.dflt T53))), (4, .box 53 (cellsX T53 st1.1))], gt⟩) ((Ty.dflt T53), 0) hw38 (zL [] [] []) ?_
    as_aux_lemma =>
     intro st1 x41 h hd40
     unfold weave_tiesOf_b1 at h
     refine zo ?_
     refine zB [(1, .bp 1 0), (2, .bp 2 0), (4, .bp 4 0), (19, .int .i64 st1.2), (20, .bool (decide (st1.2 < 6)))] [(1, .box 24 [.int .i64 l.1, .sl (.pair (.int .i64) (.int .i64)) l.2]), (2, .box 53 (cellsX T53 (Ty.dflt T53))), (4, .box 53 (cellsX T53 st1.1))] ?_
     refine AW.seq ?_
     refine zQ h (fun hb43 h => ?_) (fun hb43 h => ?_)
     ·refine zk ?_
      refine AW.seq ?_
      refine AW.block ?_
      refine zo ?_
      refine zB [(1, .bp 1 0), (2, .bp 2 0), (4, .bp 4 0), (5, .int .i64 st1.2), (19, .int .i64 st1.2)] [(1, .box 24 [.int .i64 l.1, .sl (.pair (.int .i64) (.int .i64)) l.2]), (2, .box 53 (cellsX T53 (Ty.dflt T53))), (4, .box 53 (cellsX T53 st1.1))] ?_
      refine AW.ops ?_
      obtain ⟨c44, h⟩ := ck_some.1 h
      obtain ⟨c45, h⟩ := ck_some.1 h
      obtain ⟨c46, h⟩ := ck_some.1 h
      obtain ⟨c47, h⟩ := ck_some.1 h
      have hx48 : ((0 + st1.2.toNat * 6) + st1.2.toNat * 1) < 36 := by omega
      refine zA [(1, .bp 1 0), (2, .bp 2 0), (4, .bp 4 0), (19, .int .i64 st1.2)] [(1, .box 24 [.int .i64 l.1, .sl (.pair (.int .i64) (.int .i64)) l.2]), (2, .box 53 (cellsX T53 (Ty.dflt T53))), (4, .box 53 (cellsX T53 (setBool T53 st1.1 ((0 + st1.2.toNat * 6) + st1.2.toNat * 1) true)))] ?_
      refine ablock_n ?_
      refine athen_n ?_
      refine AW.ops ?_
      obtain ⟨c49, h⟩ := ck_some.1 h
      refine zA [(1, .bp 1 0), (2, .bp 2 0), (4, .bp 4 0), (19, .int .i64 (st1.2 + 1))] [(1, .box 24 [.int .i64 l.1, .sl (.pair (.int .i64) (.int .i64)) l.2]), (2, .box 53 (cellsX T53 (Ty.dflt T53))), (4, .box 53 (cellsX T53 (setBool T53 st1.1 ((0 + st1.2.toNat * 6) + st1.2.toNat * 1) true)))] ?_
      obtain rfl := Option.some.inj h
      exact ⟨_, rfl, zL [] [] []⟩
     ·refine AW.exit ?_
      refine athen_e ?_
      obtain rfl := Option.some.inj h
      rw [← hd40 _ rfl] at ho39
      have h := ho39
      refine athen_e ?_
      refine ablock_s ?_
      refine athen_n ?_
      exact AW.weaken (zL [] [] []) (hk_weave_tiesOf_k1 _ h)

theorem hc_weave_isLetter (l : Int × (List (Int × Int))) (a : Int) {r : Bool} (h : weave_isLetter l a = some r) : HC Try.prog 48 [] [.agg [.int .i64 l.1, .sl (.pair (.int .i64) (.int .i64)) l.2], .int .i64 a] [] (.bool r) := by
 unfold weave_isLetter at h
 refine zH Try.func48 [.tmp 4] 13 ?_
 refine zo ?_
 refine zB [(1, .int .i64 a), (2, .bp 2 0)] [(2, .box 24 [.int .i64 l.1, .sl (.pair (.int .i64) (.int .i64)) l.2])] ?_
 refine zo ?_
 refine zS 3 [(1, .int .i64 a), (2, .bp 2 0), (7, .bool (decide (0 ≤ a)))] [(2, .box 24 [.int .i64 l.1, .sl (.pair (.int .i64) (.int .i64)) l.2])] ?_
 rcases zI h with ⟨hb1, h⟩ | ⟨hb1, h⟩
 ·refine zS 5 [(12, .bool (decide (a < l.1)))] [] ?_
  refine zB [(4, .bool (decide (a < l.1)))] [] ?_
  refine AW.ret ?_
  obtain rfl := Option.some.inj h
  exact zR [] [] []
 ·refine zS 4 [(7, .bool false), (11, .cv (undef))] [] ?_
  refine zB [(4, .bool false)] [] ?_
  refine AW.ret ?_
  obtain rfl := Option.some.inj h
  exact zR [] [] []

theorem hc_weave_isWord (l : Int × (List (Int × Int))) (w : List Int) {r : Bool} (h : weave_isWord l w = some r) : HC Try.prog 58 [] [.agg [.int .i64 l.1, .sl (.pair (.int .i64) (.int .i64)) l.2], .sl (.int .i64) w] [] (.bool r) := by
 unfold weave_isWord at h
 refine zH Try.func58 [.tmp 4] 21 ?_
 refine zo ?_
 refine zB [(1, .sl (.int .i64) w), (2, .bp 2 0)] [(2, .box 24 [.int .i64 l.1, .sl (.pair (.int .i64) (.int .i64)) l.2])] ?_
 refine AW.seq ?_
 refine zo ?_
 refine zB [(1, .sl (.int .i64) w), (2, .bp 2 0), (9, .bool (decide (10 < (w.length : Int))))] [(2, .box 24 [.int .i64 l.1, .sl (.pair (.int .i64) (.int .i64)) l.2])] ?_
 refine zQ h (fun hb1 h => ?_) (fun hb1 h => ?_)
 ·refine zo ?_
  refine zB [(4, .bool false)] [] ?_
  refine zr ?_
  obtain rfl := Option.some.inj h
  exact zR [] [] []
 ·refine zk ?_
  refine AW.have1 (fun _ : Unit => weave_isWord_k1 = some r) (fun _ => ⟨fr [], hpGet [], gt⟩) (fun _ h => ?_) (fun hk_weave_isWord_k1 => ?_)
  ·as_aux_lemma =>
    unfold weave_isWord_k1 at h
    refine zo ?_
    refine zB [(4, .bool true)] [] ?_
    refine AW.ret ?_
    obtain rfl := Option.some.inj h
    exact zR [] [] []
  ·refine AW.seq ?_
   refine zo ?_
   refine zB [(2, .bp 2 0), (10, .sl (.int .i64) w), (11, .int .i64 (w.length : Int)), (12, .int .i64 0)] [(2, .box 24 [.int .i64 l.1, .sl (.pair (.int .i64) (.int .i64)) l.2])] ?_
   refine AW.block ?_
   obtain ⟨rv6, hw2, ho3⟩ := Option.bind_eq_some_iff.1 h
   refine AW.loopO (weave_isWord_b1 l w) (fun st1 => ⟨fr [(2, .bp 2 0), (10, .sl (.int .i64) w), (11, .int .i64 (w.length : Int)), (12, .int .i64 st1)], hpGet [(2, .box 24 [.int .i64 l.1, .sl (.pair (.int .i64) (.int .i64)) l.2])], gt⟩) 0 hw2 (zL [] [] []) ?_
   as_aux_lemma =>
    intro st1 x5 h hd4
    unfold weave_isWord_b1 at h
    refine zo ?_
    refine zB [(2, .bp 2 0), (10, .sl (.int .i64) w), (11, .int .i64 (w.length : Int)), (12, .int .i64 st1), (13, .bool (decide (st1 < (w.length : Int))))] [(2, .box 24 [.int .i64 l.1, .sl (.pair (.int .i64) (.int .i64)) l.2])] ?_
    refine AW.seq ?_
    refine zQ h (fun hb7 h => ?_) (fun hb7 h => ?_)
    ·refine zk ?_
     refine AW.seq ?_
     refine AW.block ?_
     refine zo ?_
     obtain ⟨c8, h⟩ := ck_some.1 h
     obtain ⟨c9, h⟩ := ck_some.1 h
     refine zB [(2, .bp 2 0), (6, .int .i64 (w.getD st1.toNat 0)), (10, .sl (.int .i64) w), (11, .int .i64 (w.length : Int)), (12, .int .i64 st1)] [(2, .box 24 [.int .i64 l.1, .sl (.pair (.int .i64) (.int .i64)) l.2])] ?_
     refine zo ?_
     refine zS 2 [(2, .bp 2 0), (10, .sl (.int .i64) w), (11, .int .i64 (w.length : Int)), (12, .int .i64 st1), (16, .agg [.int .i64 l.1, .sl (.pair (.int .i64) (.int .i64)) l.2]), (17, .int .i64 (w.getD st1.toNat 0))] [(2, .box 24 [.int .i64 l.1, .sl (.pair (.int .i64) (.int .i64)) l.2])] ?_
     obtain ⟨v0, hv10, h⟩ := Option.bind_eq_some_iff.1 h
     refine zC [] [] (hc_weave_isLetter l (w.getD st1.toNat 0) hv10) [(2, .bp 2 0), (10, .sl (.int .i64) w), (11, .int .i64 (w.length : Int)), (12, .int .i64 st1), (18, .bool v0)] [(2, .box 24 [.int .i64 l.1, .sl (.pair (.int .i64) (.int .i64)) l.2])] ?_
     refine zB [(2, .bp 2 0), (10, .sl (.int .i64) w), (11, .int .i64 (w.length : Int)), (12, .int .i64 st1), (19, .bool (!v0))] [(2, .box 24 [.int .i64 l.1, .sl (.pair (.int .i64) (.int .i64)) l.2])] ?_
     refine zQ h (fun hb11 h => ?_) (fun hb11 h => ?_)
     ·refine zo ?_
      refine zB [(4, .bool false)] [] ?_
      refine AW.ret ?_
      refine ablock_r ?_
      refine athen_r ?_
      obtain rfl := Option.some.inj h
      rw [← hd4 _ rfl] at ho3
      have h := ho3
      try simp only at h
      refine athen_r ?_
      refine ablock_r ?_
      refine athen_r ?_
      obtain rfl := Option.some.inj h
      exact zR [] [] []
     ·refine zm ?_
      refine athen_n ?_
      refine AW.ops ?_
      obtain ⟨c12, h⟩ := ck_some.1 h
      refine zA [(2, .bp 2 0), (10, .sl (.int .i64) w), (11, .int .i64 (w.length : Int)), (12, .int .i64 (st1 + 1))] [(2, .box 24 [.int .i64 l.1, .sl (.pair (.int .i64) (.int .i64)) l.2])] ?_
      obtain rfl := Option.some.inj h
      exact ⟨_, rfl, zL [] [] []⟩
    ·refine AW.exit ?_
     refine athen_e ?_
     obtain rfl := Option.some.inj h
     rw [← hd4 _ rfl] at ho3
     have h := ho3
     try simp only at h
     refine athen_e ?_
     refine ablock_s ?_
     refine athen_n ?_
     exact AW.weaken (zL [] [] []) (hk_weave_isWord_k1 () h)

theorem hc_weave_checked (l : Int × (List (Int × Int))) (words : List (List Int)) {r : (El T53) × Int} (h : weave_checked l words = some r) : HC Try.prog 35 [] [.agg [.int .i64 l.1, .sl (.pair (.int .i64) (.int .i64)) l.2], .sl (.sl (.int .i64)) words] [] (.tup [.agg (cellsX T53 r.1), .int .i64 r.2]) := by
 unfold weave_checked at h
 refine zH Try.func35 [.cell 4 53, .tmp 5] 31 ?_
 refine zo ?_
 refine zB [(1, .sl (.sl (.int .i64)) words), (2, .bp 2 0), (4, .bp 4 0)] [(2, .box 24 [.int .i64 l.1, .sl (.pair (.int .i64) (.int .i64)) l.2]), (4, .box 53 (cellsX T53 (Ty.dflt T53)))] ?_
 refine zo ?_
 refine zS 1 [(1, .sl (.sl (.int .i64)) words), (2, .bp 2 0), (4, .bp 4 0), (11, .agg [.int .i64 l.1, .sl (.pair (.int .i64) (.int .i64)) l.2])] [(2, .box 24 [.int .i64 l.1, .sl (.pair (.int .i64) (.int .i64)) l.2]), (4, .box 53 (cellsX T53 (Ty.dflt T53)))] ?_
 obtain ⟨v0, hv1, h⟩ := Option.bind_eq_some_iff.1 h
 refine zC [] [] (hc_weave_tiesOf l hv1) [(1, .sl (.sl (.int .i64)) words), (2, .bp 2 0), (4, .bp 4 0), (12, .tup [.agg (cellsX T53 v0.1), .bool v0.2])] [(2, .box 24 [.int .i64 l.1, .sl (.pair (.int .i64) (.int .i64)) l.2]), (4, .box 53 (cellsX T53 (Ty.dflt T53)))] ?_
 refine zS 5 [(1, .sl (.sl (.int .i64)) words), (2, .bp 2 0), (4, .bp 4 0), (6, .bp 6 0), (14, .bool v0.2)] [(2, .box 24 [.int .i64 l.1, .sl (.pair (.int .i64) (.int .i64)) l.2]), (4, .box 53 (cellsX T53 (Ty.dflt T53))), (6, .box 53 (cellsX T53 v0.1))] ?_
 refine zB [(1, .sl (.sl (.int .i64)) words), (2, .bp 2 0), (4, .bp 4 0), (6, .bp 6 0), (7, .bool v0.2)] [(2, .box 24 [.int .i64 l.1, .sl (.pair (.int .i64) (.int .i64)) l.2]), (4, .box 53 (cellsX T53 (Ty.dflt T53))), (6, .box 53 (cellsX T53 v0.1))] ?_
 refine AW.seq ?_
 refine zo ?_
 refine zB [(1, .sl (.sl (.int .i64)) words), (2, .bp 2 0), (4, .bp 4 0), (6, .bp 6 0), (16, .bool (!v0.2))] [(2, .box 24 [.int .i64 l.1, .sl (.pair (.int .i64) (.int .i64)) l.2]), (4, .box 53 (cellsX T53 (Ty.dflt T53))), (6, .box 53 (cellsX T53 v0.1))] ?_
 refine zQ h (fun hb2 h => ?_) (fun hb2 h => ?_)
 ·refine zo ?_
  refine zB [(4, .bp 4 0), (5, .int .i64 30)] [(4, .box 53 (cellsX T53 (Ty.dflt T53)))] ?_
  refine zr ?_
  obtain rfl := Option.some.inj h
  exact zR [] [] []
 ·refine zk ?_
  refine AW.have1 (fun _ : Unit => weave_checked_k1 v0 = some r) (fun _ => ⟨fr [(4, .bp 4 0), (6, .bp 6 0)], hpGet [(4, .box 53 (cellsX T53 (Ty.dflt T53))), (6, .box 53 (cellsX T53 v0.1))], gt⟩) (fun _ h => ?_) (fun hk_weave_checked_k1 => ?_)
  ·as_aux_lemma =>
    unfold weave_checked_k1 at h
    refine zo ?_
    refine zB [(4, .bp 4 0), (5, .int .i64 0)] [(4, .box 53 (cellsX T53 v0.1))] ?_
    refine AW.ret ?_
    obtain rfl := Option.some.inj h
    exact zR [] [] []
  ·refine AW.seq ?_
   refine zo ?_
   refine zB [(2, .bp 2 0), (4, .bp 4 0), (6, .bp 6 0), (18, .sl (.sl (.int .i64)) words), (19, .int .i64 (words.length : Int)), (20, .int .i64 0)] [(2, .box 24 [.int .i64 l.1, .sl (.pair (.int .i64) (.int .i64)) l.2]), (4, .box 53 (cellsX T53 (Ty.dflt T53))), (6, .box 53 (cellsX T53 v0.1))] ?_
   refine AW.block ?_
   obtain ⟨rv7, hw3, ho4⟩ := Option.bind_eq_some_iff.1 h
   refine AW.loopO (weave_checked_b1 l words) (fun st1 => ⟨fr [(2, .bp 2 0), (4, .bp 4 0), (6, .bp 6 0), (18, .sl (.sl (.int .i64)) words), (19, .int .i64 (words.length : Int)), (20, .int .i64 st1)], hpGet [(2, .box 24 [.int .i64 l.1, .sl (.pair (.int .i64) (.int .i64)) l.2]), (4, .box 53 (cellsX T53 (Ty.dflt T53))), (6, .box 53 (cellsX T53 v0.1))], gt⟩) 0 hw3 (zL [] [] []) ?_
   as_aux_lemma =>
    intro st1 x6 h hd5
    unfold weave_checked_b1 at h
    refine zo ?_
    refine zB [(2, .bp 2 0), (4, .bp 4 0), (6, .bp 6 0), (18, .sl (.sl (.int .i64)) words), (19, .int .i64 (words.length : Int)), (20, .int .i64 st1), (21, .bool (decide (st1 < (words.length : Int))))] [(2, .box 24 [.int .i64 l.1, .sl (.pair (.int .i64) (.int .i64)) l.2]), (4, .box 53 (cellsX T53 (Ty.dflt T53))), (6, .box 53 (cellsX T53 v0.1))] ?_
    refine AW.seq ?_
    refine zQ h (fun hb8 h => ?_) (fun hb8 h => ?_)
    ·refine zk ?_
     refine AW.seq ?_
     refine AW.block ?_
     refine zo ?_
     obtain ⟨c9, h⟩ := ck_some.1 h
     obtain ⟨c10, h⟩ := ck_some.1 h
     refine zB [(2, .bp 2 0), (4, .bp 4 0), (6, .bp 6 0), (9, .sl (.int .i64) (words.getD st1.toNat [])), (18, .sl (.sl (.int .i64)) words), (19, .int .i64 (words.length : Int)), (20, .int .i64 st1)] [(2, .box 24 [.int .i64 l.1, .sl (.pair (.int .i64) (.int .i64)) l.2]), (4, .box 53 (cellsX T53 (Ty.dflt T53))), (6, .box 53 (cellsX T53 v0.1))] ?_
     refine zo ?_
     refine zS 2 [(2, .bp 2 0), (4, .bp 4 0), (6, .bp 6 0), (18, .sl (.sl (.int .i64)) words), (19, .int .i64 (words.length : Int)), (20, .int .i64 st1), (24, .agg [.int .i64 l.1, .sl (.pair (.int .i64) (.int .i64)) l.2]), (25, .sl (.int .i64) (words.getD st1.toNat []))] [(2, .box 24 [.int .i64 l.1, .sl (.pair (.int .i64) (.int .i64)) l.2]), (4, .box 53 (cellsX T53 (Ty.dflt T53))), (6, .box 53 (cellsX T53 v0.1))] ?_
     obtain ⟨v0_2, hv11, h⟩ := Option.bind_eq_some_iff.1 h
     refine zC [] [] (hc_weave_isWord l (words.getD st1.toNat []) hv11) [(2, .bp 2 0), (4, .bp 4 0), (6, .bp 6 0), (18, .sl (.sl (.int .i64)) words), (19, .int .i64 (words.length : Int)), (20, .int .i64 st1), (26, .bool v0_2)] [(2, .box 24 [.int .i64 l.1, .sl (.pair (.int .i64) (.int .i64)) l.2]), (4, .box 53 (cellsX T53 (Ty.dflt T53))), (6, .box 53 (cellsX T53 v0.1))] ?_
     refine zB [(2, .bp 2 0), (4, .bp 4 0), (6, .bp 6 0), (18, .sl (.sl (.int .i64)) words), (19, .int .i64 (words.length : Int)), (20, .int .i64 st1), (27, .bool (!v0_2))] [(2, .box 24 [.int .i64 l.1, .sl (.pair (.int .i64) (.int .i64)) l.2]), (4, .box 53 (cellsX T53 (Ty.dflt T53))), (6, .box 53 (cellsX T53 v0.1))] ?_
     refine zQ h (fun hb12 h => ?_) (fun hb12 h => ?_)
     ·refine zo ?_
      refine zB [(4, .bp 4 0), (5, .int .i64 31)] [(4, .box 53 (cellsX T53 (Ty.dflt T53)))] ?_
      refine AW.ret ?_
      refine ablock_r ?_
      refine athen_r ?_
      obtain rfl := Option.some.inj h
      rw [← hd5 _ rfl] at ho4
      have h := ho4
      try simp only at h
      refine athen_r ?_
      refine ablock_r ?_
      refine athen_r ?_
      obtain rfl := Option.some.inj h
      exact zR [] [] []
     ·refine zm ?_
      refine athen_n ?_
      refine AW.ops ?_
      obtain ⟨c13, h⟩ := ck_some.1 h
      refine zA [(2, .bp 2 0), (4, .bp 4 0), (6, .bp 6 0), (18, .sl (.sl (.int .i64)) words), (19, .int .i64 (words.length : Int)), (20, .int .i64 (st1 + 1))] [(2, .box 24 [.int .i64 l.1, .sl (.pair (.int .i64) (.int .i64)) l.2]), (4, .box 53 (cellsX T53 (Ty.dflt T53))), (6, .box 53 (cellsX T53 v0.1))] ?_
      obtain rfl := Option.some.inj h
      exact ⟨_, rfl, zL [] [] []⟩
    ·refine AW.exit ?_
     refine athen_e ?_
     obtain rfl := Option.some.inj h
     rw [← hd5 _ rfl] at ho4
     have h := ho4
     try simp only at h
     refine athen_e ?_
     refine ablock_s ?_
     refine athen_n ?_
     exact AW.weaken (zL [] [] []) (hk_weave_checked_k1 () h)

theorem hc_weave_keyOf (w : List Int) {r : (El T85)} (h : weave_keyOf w = some r) : HC Try.prog 64 [] [.sl (.int .i64) w] [] (.agg (cellsX T85 r)) := by
 unfold weave_keyOf at h
 refine zH Try.func64 [.cell 2 85] 19 ?_
 refine zo ?_
 refine zB [(0, .sl (.int .i64) w), (2, .bp 2 0)] [(2, .box 85 (cellsX T85 (Ty.dflt T85)))] ?_
 refine zo ?_
 refine zB [(0, .sl (.int .i64) w), (2, .bp 2 0), (3, .bp 3 0)] [(2, .box 85 (cellsX T85 (Ty.dflt T85))), (3, .box 85 (cellsX T85 (Ty.dflt T85)))] ?_
 refine AW.have1 (fun b1 : (El T85) => weave_keyOf_k1 b1 = some r) (fun b1 => ⟨fr [(2, .bp 2 0), (3, .bp 3 0)], hpGet [(2, .box 85 (cellsX T85 (Ty.dflt T85))), (3, .box 85 (cellsX T85 b1))], gt⟩) (fun b1 h => ?_) (fun hk_weave_keyOf_k1 => ?_)
 ·as_aux_lemma =>
   unfold weave_keyOf_k1 at h
   refine zo ?_
   refine zB [(2, .bp 2 0)] [(2, .box 85 (cellsX T85 b1))] ?_
   refine AW.ret ?_
   obtain rfl := Option.some.inj h
   exact zR [] [] []
 ·refine AW.seq ?_
  refine zo ?_
  refine zB [(2, .bp 2 0), (3, .bp 3 0), (6, .sl (.int .i64) w), (7, .int .i64 (w.length : Int)), (8, .int .i64 0)] [(2, .box 85 (cellsX T85 (Ty.dflt T85))), (3, .box 85 (cellsX T85 (Ty.dflt T85)))] ?_
  refine AW.block ?_
  obtain ⟨rv5, hw1, ho2⟩ := Option.bind_eq_some_iff.1 h
  refine AW.loopO (weave_keyOf_b1 w) (fun st1 => ⟨fr [(2, .bp 2 0), (3, .bp 3 0), (6, .sl (.int .i64) w), (7, .int .i64 (w.length : Int)), (8, .int .i64 st1.2)], hpGet [(2, .box 85 (cellsX T85 (Ty.dflt T85))), (3, .box 85 (cellsX T85 st1.1))], gt⟩) ((Ty.dflt T85), 0) hw1 (zL [] [] []) ?_
  as_aux_lemma =>
   intro st1 x4 h hd3
   unfold weave_keyOf_b1 at h
   refine zo ?_
   refine zB [(2, .bp 2 0), (3, .bp 3 0), (6, .sl (.int .i64) w), (7, .int .i64 (w.length : Int)), (8, .int .i64 st1.2), (9, .bool (decide (st1.2 < (w.length : Int))))] [(2, .box 85 (cellsX T85 (Ty.dflt T85))), (3, .box 85 (cellsX T85 st1.1))] ?_
   refine AW.seq ?_
   refine zQ h (fun hb6 h => ?_) (fun hb6 h => ?_)
   ·refine zk ?_
    refine AW.seq ?_
    refine AW.block ?_
    refine zo ?_
    obtain ⟨c7, h⟩ := ck_some.1 h
    obtain ⟨c8, h⟩ := ck_some.1 h
    refine zB [(2, .bp 2 0), (3, .bp 3 0), (4, .int .i64 st1.2), (5, .int .i64 (w.getD st1.2.toNat 0)), (6, .sl (.int .i64) w), (7, .int .i64 (w.length : Int)), (8, .int .i64 st1.2)] [(2, .box 85 (cellsX T85 (Ty.dflt T85))), (3, .box 85 (cellsX T85 st1.1))] ?_
    refine AW.ops ?_
    obtain ⟨c9, h⟩ := ck_some.1 h
    obtain ⟨c10, h⟩ := ck_some.1 h
    obtain ⟨c11, h⟩ := ck_some.1 h
    have hx12 : (0 + st1.2.toNat * 1) < 10 := by omega
    refine zA [(2, .bp 2 0), (3, .bp 3 0), (6, .sl (.int .i64) w), (7, .int .i64 (w.length : Int)), (8, .int .i64 st1.2)] [(2, .box 85 (cellsX T85 (Ty.dflt T85))), (3, .box 85 (cellsX T85 (setInt T85 st1.1 (0 + st1.2.toNat * 1) ((w.getD st1.2.toNat 0) + 1))))] ?_
    refine ablock_n ?_
    refine athen_n ?_
    refine AW.ops ?_
    obtain ⟨c13, h⟩ := ck_some.1 h
    refine zA [(2, .bp 2 0), (3, .bp 3 0), (6, .sl (.int .i64) w), (7, .int .i64 (w.length : Int)), (8, .int .i64 (st1.2 + 1))] [(2, .box 85 (cellsX T85 (Ty.dflt T85))), (3, .box 85 (cellsX T85 (setInt T85 st1.1 (0 + st1.2.toNat * 1) ((w.getD st1.2.toNat 0) + 1))))] ?_
    obtain rfl := Option.some.inj h
    exact ⟨_, rfl, zL [] [] []⟩
   ·refine AW.exit ?_
    refine athen_e ?_
    obtain rfl := Option.some.inj h
    rw [← hd3 _ rfl] at ho2
    have h := ho2
    refine athen_e ?_
    refine ablock_s ?_
    refine athen_n ?_
    exact AW.weaken (zL [] [] []) (hk_weave_keyOf_k1 _ h)

theorem hc_weave_ties_starts (t : (El T53)) (w : List Int) {r : Unit} (h : weave_ties_starts t w = some r) : HC Try.prog 42 [] [.agg (cellsX T53 t), .sl (.int .i64) w] [(2000, .box 53 (cellsX T53 t)), (2001, .box 25 [.sl (.int .i64) w])] (.fn (.func 62) [] [.bp 2000 0, .bp 2001 0]) := by
 unfold weave_ties_starts at h
 refine zH Try.func42 [.tmp 4] 6 ?_
 refine zo ?_
 refine zB [(2, .bp 2 0), (3, .bp 3 0)] [(2, .box 53 (cellsX T53 t)), (3, .box 25 [.sl (.int .i64) w])] ?_
 refine zo ?_
 refine zB [(4, .fn (.func 62) [] [.bp 2 0, .bp 3 0])] [(2, .box 53 (cellsX T53 t)), (3, .box 25 [.sl (.int .i64) w])] ?_
 refine AW.ret ?_
 obtain rfl := Option.some.inj h
 exact zR [] [] [(2000, 2), (2001, 3)]

theorem hc_slices_Index (s : List Int) (v0 : Int) {r : Int} (h : slices_Index s v0 = some r) : HC Try.prog 66 [] [.sl (.int .i64) s, .int .i64 v0] [] (.int .i64 r) := by
 unfold slices_Index at h
 refine zH Try.func66 [.tmp 4] 19 ?_
 refine zo ?_
 refine zB [(0, .sl (.int .i64) s), (1, .int .i64 v0)] [] ?_
 refine AW.have1 (fun _ : Unit => slices_Index_k1 = some r) (fun _ => ⟨fr [], hpGet [], gt⟩) (fun _ h => ?_) (fun hk_slices_Index_k1 => ?_)
 ·as_aux_lemma =>
   unfold slices_Index_k1 at h
   refine zo ?_
   refine zB [(4, .int .i64 (-1))] [] ?_
   refine AW.ret ?_
   obtain rfl := Option.some.inj h
   exact zR [] [] []
 ·refine AW.seq ?_
  refine zo ?_
  refine zB [(0, .sl (.int .i64) s), (1, .int .i64 v0), (7, .int .i64 (s.length : Int)), (8, .int .i64 0)] [] ?_
  refine AW.block ?_
  obtain ⟨rv5, hw1, ho2⟩ := Option.bind_eq_some_iff.1 h
  refine AW.loopO (slices_Index_b1 s v0) (fun st1 => ⟨fr [(0, .sl (.int .i64) s), (1, .int .i64 v0), (7, .int .i64 (s.length : Int)), (8, .int .i64 st1)], hpGet [], gt⟩) 0 hw1 (zL [] [] []) ?_
  as_aux_lemma =>
   intro st1 x4 h hd3
   unfold slices_Index_b1 at h
   refine zo ?_
   refine zB [(0, .sl (.int .i64) s), (1, .int .i64 v0), (7, .int .i64 (s.length : Int)), (8, .int .i64 st1), (9, .bool (decide (st1 < (s.length : Int))))] [] ?_
   refine AW.seq ?_
   refine zQ h (fun hb6 h => ?_) (fun hb6 h => ?_)
   ·refine zk ?_
    refine AW.seq ?_
    refine AW.block ?_
    refine zo ?_
    refine zB [(0, .sl (.int .i64) s), (1, .int .i64 v0), (5, .int .i64 st1), (7, .int .i64 (s.length : Int)), (8, .int .i64 st1)] [] ?_
    refine zo ?_
    obtain ⟨c7, h⟩ := ck_some.1 h
    obtain ⟨c8, h⟩ := ck_some.1 h
    refine zS 5 [(0, .sl (.int .i64) s), (1, .int .i64 v0), (5, .int .i64 st1), (7, .int .i64 (s.length : Int)), (8, .int .i64 st1), (11, .int .i64 v0), (15, .int .i64 (s.getD st1.toNat 0))] [] ?_
    refine zB [(0, .sl (.int .i64) s), (1, .int .i64 v0), (5, .int .i64 st1), (7, .int .i64 (s.length : Int)), (8, .int .i64 st1), (16, .bool (decide (v0 = (s.getD st1.toNat 0))))] [] ?_
    refine zQ h (fun hb9 h => ?_) (fun hb9 h => ?_)
    ·refine zo ?_
     refine zB [(4, .int .i64 st1)] [] ?_
     refine AW.ret ?_
     refine ablock_r ?_
     refine athen_r ?_
     obtain rfl := Option.some.inj h
     rw [← hd3 _ rfl] at ho2
     have h := ho2
     try simp only at h
     refine athen_r ?_
     refine ablock_r ?_
     refine athen_r ?_
     obtain rfl := Option.some.inj h
     exact zR [] [] []
    ·refine zm ?_
     refine athen_n ?_
     refine AW.ops ?_
     obtain ⟨c10, h⟩ := ck_some.1 h
     refine zA [(0, .sl (.int .i64) s), (1, .int .i64 v0), (7, .int .i64 (s.length : Int)), (8, .int .i64 (st1 + 1))] [] ?_
     obtain rfl := Option.some.inj h
     exact ⟨_, rfl, zL [] [] []⟩
   ·refine AW.exit ?_
    refine athen_e ?_
    obtain rfl := Option.some.inj h
    rw [← hd3 _ rfl] at ho2
    have h := ho2
    try simp only at h
    refine athen_e ?_
    refine ablock_s ?_
    refine athen_n ?_
    exact AW.weaken (zL [] [] []) (hk_slices_Index_k1 () h)

theorem hc_weave_ties_onAny (t : (El T53)) (letter : Int) (w : List Int) {r : Bool} (h : weave_ties_onAny t letter w = some r) : HC Try.prog 56 [] [.agg (cellsX T53 t), .int .i64 letter, .sl (.int .i64) w] [] (.bool r) := by
 unfold weave_ties_onAny at h
 refine zH Try.func56 [.tmp 6] 21 ?_
 refine zo ?_
 refine zB [(1, .int .i64 letter), (2, .sl (.int .i64) w), (3, .bp 3 0)] [(3, .box 53 (cellsX T53 t))] ?_
 refine AW.have1 (fun _ : Unit => weave_ties_onAny_k1 = some r) (fun _ => ⟨fr [], hpGet [], gt⟩) (fun _ h => ?_) (fun hk_weave_ties_onAny_k1 => ?_)
 ·as_aux_lemma =>
   unfold weave_ties_onAny_k1 at h
   refine zo ?_
   refine zB [(6, .bool false)] [] ?_
   refine AW.ret ?_
   obtain rfl := Option.some.inj h
   exact zR [] [] []
 ·refine AW.seq ?_
  refine zo ?_
  refine zB [(1, .int .i64 letter), (3, .bp 3 0), (9, .sl (.int .i64) w), (10, .int .i64 (w.length : Int)), (11, .int .i64 0)] [(3, .box 53 (cellsX T53 t))] ?_
  refine AW.block ?_
  obtain ⟨rv5, hw1, ho2⟩ := Option.bind_eq_some_iff.1 h
  refine AW.loopO (weave_ties_onAny_b1 t letter w) (fun st1 => ⟨fr [(1, .int .i64 letter), (3, .bp 3 0), (9, .sl (.int .i64) w), (10, .int .i64 (w.length : Int)), (11, .int .i64 st1)], hpGet [(3, .box 53 (cellsX T53 t))], gt⟩) 0 hw1 (zL [] [] []) ?_
  as_aux_lemma =>
   intro st1 x4 h hd3
   unfold weave_ties_onAny_b1 at h
   refine zo ?_
   refine zB [(1, .int .i64 letter), (3, .bp 3 0), (9, .sl (.int .i64) w), (10, .int .i64 (w.length : Int)), (11, .int .i64 st1), (12, .bool (decide (st1 < (w.length : Int))))] [(3, .box 53 (cellsX T53 t))] ?_
   refine AW.seq ?_
   refine zQ h (fun hb6 h => ?_) (fun hb6 h => ?_)
   ·refine zk ?_
    refine AW.seq ?_
    refine AW.block ?_
    refine zo ?_
    obtain ⟨c7, h⟩ := ck_some.1 h
    obtain ⟨c8, h⟩ := ck_some.1 h
    refine zB [(1, .int .i64 letter), (3, .bp 3 0), (8, .int .i64 (w.getD st1.toNat 0)), (9, .sl (.int .i64) w), (10, .int .i64 (w.length : Int)), (11, .int .i64 st1)] [(3, .box 53 (cellsX T53 t))] ?_
    refine zo ?_
    obtain ⟨c9, h⟩ := ck_some.1 h
    obtain ⟨c10, h⟩ := ck_some.1 h
    obtain ⟨c11, h⟩ := ck_some.1 h
    obtain ⟨c12, h⟩ := ck_some.1 h
    have hx13 : ((0 + letter.toNat * 6) + (w.getD st1.toNat 0).toNat * 1) < 36 := by omega
    refine zB [(1, .int .i64 letter), (3, .bp 3 0), (9, .sl (.int .i64) w), (10, .int .i64 (w.length : Int)), (11, .int .i64 st1), (19, .bool (boolAt T53 t ((0 + letter.toNat * 6) + (w.getD st1.toNat 0).toNat * 1)))] [(3, .box 53 (cellsX T53 t))] ?_
    refine zQ h (fun hb14 h => ?_) (fun hb14 h => ?_)
    ·refine zo ?_
     refine zB [(6, .bool true)] [] ?_
     refine AW.ret ?_
     refine ablock_r ?_
     refine athen_r ?_
     obtain rfl := Option.some.inj h
     rw [← hd3 _ rfl] at ho2
     have h := ho2
     try simp only at h
     refine athen_r ?_
     refine ablock_r ?_
     refine athen_r ?_
     obtain rfl := Option.some.inj h
     exact zR [] [] []
    ·refine zm ?_
     refine athen_n ?_
     refine AW.ops ?_
     obtain ⟨c15, h⟩ := ck_some.1 h
     refine zA [(1, .int .i64 letter), (3, .bp 3 0), (9, .sl (.int .i64) w), (10, .int .i64 (w.length : Int)), (11, .int .i64 (st1 + 1))] [(3, .box 53 (cellsX T53 t))] ?_
     obtain rfl := Option.some.inj h
     exact ⟨_, rfl, zL [] [] []⟩
   ·refine AW.exit ?_
    refine athen_e ?_
    obtain rfl := Option.some.inj h
    rw [← hd3 _ rfl] at ho2
    have h := ho2
    try simp only at h
    refine athen_e ?_
    refine ablock_s ?_
    refine athen_n ?_
    exact AW.weaken (zL [] [] []) (hk_weave_ties_onAny_k1 () h)

end Go.Proofs.Ytabchabbdnhjpaa
