/-
  Made by wip/tool/dc.py out of the print of the program: contracts.
-/
import Derived.Test.YtabchabbdnhjpaaVp
import Derived.Test.YtabchabbdnhjpaaSh6
import Derived.Test.YtabchabbdnhjpaaVtc2
namespace Go.Proofs.Ytabchabbdnhjpaa
open Go.RowKit

set_option linter.unusedSimpArgs false
set_option linter.unusedVariables false
set_option linter.constructorNameAsVariable false

set_option maxRecDepth 100000
set_option maxHeartbeats 2000000

theorem hc_linealref03_Valid (l : Int × (List (Int × Int))) {r : Bool} (h : linealref03_Valid l = some r) : HC Try.prog 27 [] [.agg [.int .i64 l.1, .sl (.pair (.int .i64) (.int .i64)) l.2]] [] (.bool r) := by
 unfold linealref03_Valid at h
 refine zH Try.func27 [.tmp 2] 66 ?_
 refine zo ?_
 refine zB [(1, .bp 1 0)] [(1, .box 24 [.int .i64 l.1, .sl (.pair (.int .i64) (.int .i64)) l.2])] ?_
 refine AW.seq ?_
 refine zo ?_
 refine zS 4 [(1, .bp 1 0), (10, .bool (decide (l.1 < 1)))] [(1, .box 24 [.int .i64 l.1, .sl (.pair (.int .i64) (.int .i64)) l.2])] ?_
 rcases zI h with ⟨hb1, h⟩ | ⟨hb1, h⟩
 ·refine zB [(1, .bp 1 0), (14, .bool true)] [(1, .box 24 [.int .i64 l.1, .sl (.pair (.int .i64) (.int .i64)) l.2])] ?_
  refine AW.cond (b := true) rfl (fun _ => ?_) (fun hb2 => by cases hb2)
  refine zo ?_
  refine zB [(2, .bool false)] [] ?_
  refine zr ?_
  obtain rfl := Option.some.inj h
  exact zR [] [] []
 ·refine zB [(1, .bp 1 0), (14, .bool (decide (6 < l.1)))] [(1, .box 24 [.int .i64 l.1, .sl (.pair (.int .i64) (.int .i64)) l.2])] ?_
  refine zQ h (fun hb3 h => ?_) (fun hb3 h => ?_)
  ·refine zo ?_
   refine zB [(2, .bool false)] [] ?_
   refine zr ?_
   obtain rfl := Option.some.inj h
   exact zR [] [] []
  ·refine zk ?_
   refine AW.have1 (fun _ : Unit => linealref03_Valid_k1 = some r) (fun _ => ⟨fr [], hpGet [], gt⟩) (fun _ h => ?_) (fun hk_linealref03_Valid_k1 => ?_)
   ·as_aux_lemma =>
     unfold linealref03_Valid_k1 at h
     refine zo ?_
     refine zB [(2, .bool true)] [] ?_
     refine AW.ret ?_
     obtain rfl := Option.some.inj h
     exact zR [] [] []
   ·refine AW.seq ?_
    refine zo ?_
    refine zB [(1, .bp 1 0), (16, .sl (.pair (.int .i64) (.int .i64)) l.2), (17, .int .i64 (l.2.length : Int)), (18, .int .i64 0)] [(1, .box 24 [.int .i64 l.1, .sl (.pair (.int .i64) (.int .i64)) l.2])] ?_
    refine AW.block ?_
    obtain ⟨rv8, hw4, ho5⟩ := Option.bind_eq_some_iff.1 h
    refine AW.loopO (linealref03_Valid_b1 l) (fun st1 => ⟨fr [(1, .bp 1 0), (16, .sl (.pair (.int .i64) (.int .i64)) l.2), (17, .int .i64 (l.2.length : Int)), (18, .int .i64 st1)], hpGet [(1, .box 24 [.int .i64 l.1, .sl (.pair (.int .i64) (.int .i64)) l.2])], gt⟩) 0 hw4 (zL [] [] []) ?_
    as_aux_lemma =>
     intro st1 x7 h hd6
     unfold linealref03_Valid_b1 at h
     refine zo ?_
     refine zB [(1, .bp 1 0), (16, .sl (.pair (.int .i64) (.int .i64)) l.2), (17, .int .i64 (l.2.length : Int)), (18, .int .i64 st1), (19, .bool (decide (st1 < (l.2.length : Int))))] [(1, .box 24 [.int .i64 l.1, .sl (.pair (.int .i64) (.int .i64)) l.2])] ?_
     refine AW.seq ?_
     refine zQ h (fun hb9 h => ?_) (fun hb9 h => ?_)
     ·refine zk ?_
      refine AW.have1 (fun _ : Unit => linealref03_Valid_k2 st1 = some x7) (fun _ => ⟨fr [(1, .bp 1 0), (16, .sl (.pair (.int .i64) (.int .i64)) l.2), (17, .int .i64 (l.2.length : Int)), (18, .int .i64 st1)], hpGet [(1, .box 24 [.int .i64 l.1, .sl (.pair (.int .i64) (.int .i64)) l.2])], gt⟩) (fun _ h => ?_) (fun hk_linealref03_Valid_k2 => ?_)
      ·as_aux_lemma =>
        unfold linealref03_Valid_k2 at h
        refine AW.ops ?_
        obtain ⟨c10, h⟩ := ck_some.1 h
        refine zA [(1, .bp 1 0), (16, .sl (.pair (.int .i64) (.int .i64)) l.2), (17, .int .i64 (l.2.length : Int)), (18, .int .i64 (st1 + 1))] [(1, .box 24 [.int .i64 l.1, .sl (.pair (.int .i64) (.int .i64)) l.2])] ?_
        obtain rfl := Option.some.inj h
        exact ⟨_, rfl, zL [] [] []⟩
      ·refine AW.seq ?_
       refine AW.block ?_
       refine zo ?_
       obtain ⟨c11, h⟩ := ck_some.1 h
       obtain ⟨c12, h⟩ := ck_some.1 h
       refine zS 5 [(1, .bp 1 0), (3, .int .i64 st1), (4, .bp 4 0), (16, .sl (.pair (.int .i64) (.int .i64)) l.2), (17, .int .i64 (l.2.length : Int)), (18, .int .i64 st1), (22, .agg [.int .i64 (l.2.getD st1.toNat (0, 0)).1, .int .i64 (l.2.getD st1.toNat (0, 0)).2])] [(1, .box 24 [.int .i64 l.1, .sl (.pair (.int .i64) (.int .i64)) l.2]), (4, .box 50 [.int .i64 0, .int .i64 0])] ?_
       refine zB [(1, .bp 1 0), (3, .int .i64 st1), (4, .bp 4 0), (16, .sl (.pair (.int .i64) (.int .i64)) l.2), (17, .int .i64 (l.2.length : Int)), (18, .int .i64 st1)] [(1, .box 24 [.int .i64 l.1, .sl (.pair (.int .i64) (.int .i64)) l.2]), (4, .box 50 [.int .i64 (l.2.getD st1.toNat (0, 0)).1, .int .i64 (l.2.getD st1.toNat (0, 0)).2])] ?_
       refine AW.seq ?_
       refine zo ?_
       refine zS 4 [(1, .bp 1 0), (3, .int .i64 st1), (4, .bp 4 0), (16, .sl (.pair (.int .i64) (.int .i64)) l.2), (17, .int .i64 (l.2.length : Int)), (18, .int .i64 st1), (26, .bool (decide ((l.2.getD st1.toNat (0, 0)).1 < 0)))] [(1, .box 24 [.int .i64 l.1, .sl (.pair (.int .i64) (.int .i64)) l.2]), (4, .box 50 [.int .i64 (l.2.getD st1.toNat (0, 0)).1, .int .i64 (l.2.getD st1.toNat (0, 0)).2])] ?_
       rcases zI h with ⟨hb13, h⟩ | ⟨hb13, h⟩
       ·refine zS 5 [(1, .bp 1 0), (3, .int .i64 st1), (4, .bp 4 0), (16, .sl (.pair (.int .i64) (.int .i64)) l.2), (17, .int .i64 (l.2.length : Int)), (18, .int .i64 st1), (31, .bool true)] [(1, .box 24 [.int .i64 l.1, .sl (.pair (.int .i64) (.int .i64)) l.2]), (4, .box 50 [.int .i64 (l.2.getD st1.toNat (0, 0)).1, .int .i64 (l.2.getD st1.toNat (0, 0)).2])] ?_
        refine zS 4 [(1, .bp 1 0), (3, .int .i64 st1), (4, .bp 4 0), (16, .sl (.pair (.int .i64) (.int .i64)) l.2), (17, .int .i64 (l.2.length : Int)), (18, .int .i64 st1), (31, .bool true), (33, .cv (undef)), (35, .cv (undef))] [(1, .box 24 [.int .i64 l.1, .sl (.pair (.int .i64) (.int .i64)) l.2]), (4, .box 50 [.int .i64 (l.2.getD st1.toNat (0, 0)).1, .int .i64 (l.2.getD st1.toNat (0, 0)).2])] ?_
        refine zS 5 [(1, .bp 1 0), (3, .int .i64 st1), (4, .bp 4 0), (16, .sl (.pair (.int .i64) (.int .i64)) l.2), (17, .int .i64 (l.2.length : Int)), (18, .int .i64 st1), (38, .bool true), (40, .cv (undef))] [(1, .box 24 [.int .i64 l.1, .sl (.pair (.int .i64) (.int .i64)) l.2]), (4, .box 50 [.int .i64 (l.2.getD st1.toNat (0, 0)).1, .int .i64 (l.2.getD st1.toNat (0, 0)).2])] ?_
        refine zS 5 [(1, .bp 1 0), (3, .int .i64 st1), (4, .bp 4 0), (16, .sl (.pair (.int .i64) (.int .i64)) l.2), (17, .int .i64 (l.2.length : Int)), (18, .int .i64 st1), (45, .bool true)] [(1, .box 24 [.int .i64 l.1, .sl (.pair (.int .i64) (.int .i64)) l.2]), (4, .box 50 [.int .i64 (l.2.getD st1.toNat (0, 0)).1, .int .i64 (l.2.getD st1.toNat (0, 0)).2])] ?_
        refine zS 4 [(1, .bp 1 0), (3, .int .i64 st1), (4, .bp 4 0), (16, .sl (.pair (.int .i64) (.int .i64)) l.2), (17, .int .i64 (l.2.length : Int)), (18, .int .i64 st1), (45, .bool true), (47, .cv (undef)), (49, .cv (undef))] [(1, .box 24 [.int .i64 l.1, .sl (.pair (.int .i64) (.int .i64)) l.2]), (4, .box 50 [.int .i64 (l.2.getD st1.toNat (0, 0)).1, .int .i64 (l.2.getD st1.toNat (0, 0)).2])] ?_
        refine zB [(1, .bp 1 0), (3, .int .i64 st1), (4, .bp 4 0), (16, .sl (.pair (.int .i64) (.int .i64)) l.2), (17, .int .i64 (l.2.length : Int)), (18, .int .i64 st1), (51, .bool true)] [(1, .box 24 [.int .i64 l.1, .sl (.pair (.int .i64) (.int .i64)) l.2]), (4, .box 50 [.int .i64 (l.2.getD st1.toNat (0, 0)).1, .int .i64 (l.2.getD st1.toNat (0, 0)).2])] ?_
        refine AW.cond (b := true) rfl (fun _ => ?_) (fun hb14 => by cases hb14)
        refine zo ?_
        refine zB [(2, .bool false)] [] ?_
        refine zr ?_
        refine ablock_r ?_
        refine athen_r ?_
        obtain rfl := Option.some.inj h
        rw [← hd6 _ rfl] at ho5
        have h := ho5
        try simp only at h
        refine athen_r ?_
        refine ablock_r ?_
        refine athen_r ?_
        obtain rfl := Option.some.inj h
        exact zR [] [] []
       ·refine zS 5 [(1, .bp 1 0), (3, .int .i64 st1), (4, .bp 4 0), (16, .sl (.pair (.int .i64) (.int .i64)) l.2), (17, .int .i64 (l.2.length : Int)), (18, .int .i64 st1), (31, .bool (decide ((l.2.getD st1.toNat (0, 0)).2 < 0)))] [(1, .box 24 [.int .i64 l.1, .sl (.pair (.int .i64) (.int .i64)) l.2]), (4, .box 50 [.int .i64 (l.2.getD st1.toNat (0, 0)).1, .int .i64 (l.2.getD st1.toNat (0, 0)).2])] ?_
        rcases zI h with ⟨hb15, h⟩ | ⟨hb15, h⟩
        ·refine zS 4 [(1, .bp 1 0), (3, .int .i64 st1), (4, .bp 4 0), (16, .sl (.pair (.int .i64) (.int .i64)) l.2), (17, .int .i64 (l.2.length : Int)), (18, .int .i64 st1), (31, .bool true), (33, .cv (undef)), (35, .cv (undef))] [(1, .box 24 [.int .i64 l.1, .sl (.pair (.int .i64) (.int .i64)) l.2]), (4, .box 50 [.int .i64 (l.2.getD st1.toNat (0, 0)).1, .int .i64 (l.2.getD st1.toNat (0, 0)).2])] ?_
         refine zS 5 [(1, .bp 1 0), (3, .int .i64 st1), (4, .bp 4 0), (16, .sl (.pair (.int .i64) (.int .i64)) l.2), (17, .int .i64 (l.2.length : Int)), (18, .int .i64 st1), (38, .bool true), (40, .cv (undef))] [(1, .box 24 [.int .i64 l.1, .sl (.pair (.int .i64) (.int .i64)) l.2]), (4, .box 50 [.int .i64 (l.2.getD st1.toNat (0, 0)).1, .int .i64 (l.2.getD st1.toNat (0, 0)).2])] ?_
         refine zS 5 [(1, .bp 1 0), (3, .int .i64 st1), (4, .bp 4 0), (16, .sl (.pair (.int .i64) (.int .i64)) l.2), (17, .int .i64 (l.2.length : Int)), (18, .int .i64 st1), (45, .bool true)] [(1, .box 24 [.int .i64 l.1, .sl (.pair (.int .i64) (.int .i64)) l.2]), (4, .box 50 [.int .i64 (l.2.getD st1.toNat (0, 0)).1, .int .i64 (l.2.getD st1.toNat (0, 0)).2])] ?_
         refine zS 4 [(1, .bp 1 0), (3, .int .i64 st1), (4, .bp 4 0), (16, .sl (.pair (.int .i64) (.int .i64)) l.2), (17, .int .i64 (l.2.length : Int)), (18, .int .i64 st1), (45, .bool true), (47, .cv (undef)), (49, .cv (undef))] [(1, .box 24 [.int .i64 l.1, .sl (.pair (.int .i64) (.int .i64)) l.2]), (4, .box 50 [.int .i64 (l.2.getD st1.toNat (0, 0)).1, .int .i64 (l.2.getD st1.toNat (0, 0)).2])] ?_
         refine zB [(1, .bp 1 0), (3, .int .i64 st1), (4, .bp 4 0), (16, .sl (.pair (.int .i64) (.int .i64)) l.2), (17, .int .i64 (l.2.length : Int)), (18, .int .i64 st1), (51, .bool true)] [(1, .box 24 [.int .i64 l.1, .sl (.pair (.int .i64) (.int .i64)) l.2]), (4, .box 50 [.int .i64 (l.2.getD st1.toNat (0, 0)).1, .int .i64 (l.2.getD st1.toNat (0, 0)).2])] ?_
         refine AW.cond (b := true) rfl (fun _ => ?_) (fun hb16 => by cases hb16)
         refine zo ?_
         refine zB [(2, .bool false)] [] ?_
         refine zr ?_
         refine ablock_r ?_
         refine athen_r ?_
         obtain rfl := Option.some.inj h
         rw [← hd6 _ rfl] at ho5
         have h := ho5
         try simp only at h
         refine athen_r ?_
         refine ablock_r ?_
         refine athen_r ?_
         obtain rfl := Option.some.inj h
         exact zR [] [] []
        ·refine zS 5 [(1, .bp 1 0), (3, .int .i64 st1), (4, .bp 4 0), (16, .sl (.pair (.int .i64) (.int .i64)) l.2), (17, .int .i64 (l.2.length : Int)), (18, .int .i64 st1), (31, .bool false), (36, .bool (decide (l.1 ≤ (l.2.getD st1.toNat (0, 0)).1)))] [(1, .box 24 [.int .i64 l.1, .sl (.pair (.int .i64) (.int .i64)) l.2]), (4, .box 50 [.int .i64 (l.2.getD st1.toNat (0, 0)).1, .int .i64 (l.2.getD st1.toNat (0, 0)).2])] ?_
         refine zS 2 [(1, .bp 1 0), (3, .int .i64 st1), (4, .bp 4 0), (16, .sl (.pair (.int .i64) (.int .i64)) l.2), (17, .int .i64 (l.2.length : Int)), (18, .int .i64 st1), (38, .bool (decide (l.1 ≤ (l.2.getD st1.toNat (0, 0)).1)))] [(1, .box 24 [.int .i64 l.1, .sl (.pair (.int .i64) (.int .i64)) l.2]), (4, .box 50 [.int .i64 (l.2.getD st1.toNat (0, 0)).1, .int .i64 (l.2.getD st1.toNat (0, 0)).2])] ?_
         rcases zI h with ⟨hb17, h⟩ | ⟨hb17, h⟩
         ·refine zS 4 [(1, .bp 1 0), (3, .int .i64 st1), (4, .bp 4 0), (16, .sl (.pair (.int .i64) (.int .i64)) l.2), (17, .int .i64 (l.2.length : Int)), (18, .int .i64 st1), (38, .bool true), (40, .cv (undef)), (42, .cv (undef))] [(1, .box 24 [.int .i64 l.1, .sl (.pair (.int .i64) (.int .i64)) l.2]), (4, .box 50 [.int .i64 (l.2.getD st1.toNat (0, 0)).1, .int .i64 (l.2.getD st1.toNat (0, 0)).2])] ?_
          refine zS 5 [(1, .bp 1 0), (3, .int .i64 st1), (4, .bp 4 0), (16, .sl (.pair (.int .i64) (.int .i64)) l.2), (17, .int .i64 (l.2.length : Int)), (18, .int .i64 st1), (45, .bool true), (47, .cv (undef))] [(1, .box 24 [.int .i64 l.1, .sl (.pair (.int .i64) (.int .i64)) l.2]), (4, .box 50 [.int .i64 (l.2.getD st1.toNat (0, 0)).1, .int .i64 (l.2.getD st1.toNat (0, 0)).2])] ?_
          refine zB [(1, .bp 1 0), (3, .int .i64 st1), (4, .bp 4 0), (16, .sl (.pair (.int .i64) (.int .i64)) l.2), (17, .int .i64 (l.2.length : Int)), (18, .int .i64 st1), (51, .bool true)] [(1, .box 24 [.int .i64 l.1, .sl (.pair (.int .i64) (.int .i64)) l.2]), (4, .box 50 [.int .i64 (l.2.getD st1.toNat (0, 0)).1, .int .i64 (l.2.getD st1.toNat (0, 0)).2])] ?_
          refine AW.cond (b := true) rfl (fun _ => ?_) (fun hb18 => by cases hb18)
          refine zo ?_
          refine zB [(2, .bool false)] [] ?_
          refine zr ?_
          refine ablock_r ?_
          refine athen_r ?_
          obtain rfl := Option.some.inj h
          rw [← hd6 _ rfl] at ho5
          have h := ho5
          try simp only at h
          refine athen_r ?_
          refine ablock_r ?_
          refine athen_r ?_
          obtain rfl := Option.some.inj h
          exact zR [] [] []
         ·refine zS 5 [(1, .bp 1 0), (3, .int .i64 st1), (4, .bp 4 0), (16, .sl (.pair (.int .i64) (.int .i64)) l.2), (17, .int .i64 (l.2.length : Int)), (18, .int .i64 st1), (38, .bool false), (43, .bool (decide (l.1 ≤ (l.2.getD st1.toNat (0, 0)).2)))] [(1, .box 24 [.int .i64 l.1, .sl (.pair (.int .i64) (.int .i64)) l.2]), (4, .box 50 [.int .i64 (l.2.getD st1.toNat (0, 0)).1, .int .i64 (l.2.getD st1.toNat (0, 0)).2])] ?_
          refine zS 2 [(1, .bp 1 0), (3, .int .i64 st1), (4, .bp 4 0), (16, .sl (.pair (.int .i64) (.int .i64)) l.2), (17, .int .i64 (l.2.length : Int)), (18, .int .i64 st1), (45, .bool (decide (l.1 ≤ (l.2.getD st1.toNat (0, 0)).2)))] [(1, .box 24 [.int .i64 l.1, .sl (.pair (.int .i64) (.int .i64)) l.2]), (4, .box 50 [.int .i64 (l.2.getD st1.toNat (0, 0)).1, .int .i64 (l.2.getD st1.toNat (0, 0)).2])] ?_
          rcases zI h with ⟨hb19, h⟩ | ⟨hb19, h⟩
          ·refine zS 4 [(1, .bp 1 0), (3, .int .i64 st1), (4, .bp 4 0), (16, .sl (.pair (.int .i64) (.int .i64)) l.2), (17, .int .i64 (l.2.length : Int)), (18, .int .i64 st1), (45, .bool true), (47, .cv (undef)), (49, .cv (undef))] [(1, .box 24 [.int .i64 l.1, .sl (.pair (.int .i64) (.int .i64)) l.2]), (4, .box 50 [.int .i64 (l.2.getD st1.toNat (0, 0)).1, .int .i64 (l.2.getD st1.toNat (0, 0)).2])] ?_
           refine zB [(1, .bp 1 0), (3, .int .i64 st1), (4, .bp 4 0), (16, .sl (.pair (.int .i64) (.int .i64)) l.2), (17, .int .i64 (l.2.length : Int)), (18, .int .i64 st1), (51, .bool true)] [(1, .box 24 [.int .i64 l.1, .sl (.pair (.int .i64) (.int .i64)) l.2]), (4, .box 50 [.int .i64 (l.2.getD st1.toNat (0, 0)).1, .int .i64 (l.2.getD st1.toNat (0, 0)).2])] ?_
           refine AW.cond (b := true) rfl (fun _ => ?_) (fun hb20 => by cases hb20)
           refine zo ?_
           refine zB [(2, .bool false)] [] ?_
           refine zr ?_
           refine ablock_r ?_
           refine athen_r ?_
           obtain rfl := Option.some.inj h
           rw [← hd6 _ rfl] at ho5
           have h := ho5
           try simp only at h
           refine athen_r ?_
           refine ablock_r ?_
           refine athen_r ?_
           obtain rfl := Option.some.inj h
           exact zR [] [] []
          ·refine zS 5 [(1, .bp 1 0), (3, .int .i64 st1), (4, .bp 4 0), (16, .sl (.pair (.int .i64) (.int .i64)) l.2), (17, .int .i64 (l.2.length : Int)), (18, .int .i64 st1), (45, .bool false), (50, .bool (decide ((l.2.getD st1.toNat (0, 0)).2 ≤ (l.2.getD st1.toNat (0, 0)).1)))] [(1, .box 24 [.int .i64 l.1, .sl (.pair (.int .i64) (.int .i64)) l.2]), (4, .box 50 [.int .i64 (l.2.getD st1.toNat (0, 0)).1, .int .i64 (l.2.getD st1.toNat (0, 0)).2])] ?_
           refine zB [(1, .bp 1 0), (3, .int .i64 st1), (4, .bp 4 0), (16, .sl (.pair (.int .i64) (.int .i64)) l.2), (17, .int .i64 (l.2.length : Int)), (18, .int .i64 st1), (51, .bool (decide ((l.2.getD st1.toNat (0, 0)).2 ≤ (l.2.getD st1.toNat (0, 0)).1)))] [(1, .box 24 [.int .i64 l.1, .sl (.pair (.int .i64) (.int .i64)) l.2]), (4, .box 50 [.int .i64 (l.2.getD st1.toNat (0, 0)).1, .int .i64 (l.2.getD st1.toNat (0, 0)).2])] ?_
           refine zQ h (fun hb21 h => ?_) (fun hb21 h => ?_)
           ·refine zo ?_
            refine zB [(2, .bool false)] [] ?_
            refine zr ?_
            refine ablock_r ?_
            refine athen_r ?_
            obtain rfl := Option.some.inj h
            rw [← hd6 _ rfl] at ho5
            have h := ho5
            try simp only at h
            refine athen_r ?_
            refine ablock_r ?_
            refine athen_r ?_
            obtain rfl := Option.some.inj h
            exact zR [] [] []
           ·refine zk ?_
            refine zo ?_
            obtain ⟨c22, h⟩ := ck_some.1 h
            obtain ⟨c23, h⟩ := ck_some.1 h
            refine zS 5 [(1, .bp 1 0), (4, .bp 4 0), (16, .sl (.pair (.int .i64) (.int .i64)) l.2), (17, .int .i64 (l.2.length : Int)), (18, .int .i64 st1), (55, .sl (.pair (.int .i64) (.int .i64)) (l.2.take st1.toNat)), (56, .int .i64 ((l.2.take st1.toNat).length : Int))] [(1, .box 24 [.int .i64 l.1, .sl (.pair (.int .i64) (.int .i64)) l.2]), (4, .box 50 [.int .i64 (l.2.getD st1.toNat (0, 0)).1, .int .i64 (l.2.getD st1.toNat (0, 0)).2])] ?_
            refine zB [(1, .bp 1 0), (4, .bp 4 0), (16, .sl (.pair (.int .i64) (.int .i64)) l.2), (17, .int .i64 (l.2.length : Int)), (18, .int .i64 st1), (55, .sl (.pair (.int .i64) (.int .i64)) (l.2.take st1.toNat)), (56, .int .i64 ((l.2.take st1.toNat).length : Int)), (57, .int .i64 0)] [(1, .box 24 [.int .i64 l.1, .sl (.pair (.int .i64) (.int .i64)) l.2]), (4, .box 50 [.int .i64 (l.2.getD st1.toNat (0, 0)).1, .int .i64 (l.2.getD st1.toNat (0, 0)).2])] ?_
            refine AW.block ?_
            obtain ⟨rv28, hw24, ho25⟩ := Option.bind_eq_some_iff.1 h
            refine AW.loopO (linealref03_Valid_b2 l st1) (fun st2 => ⟨fr [(1, .bp 1 0), (4, .bp 4 0), (16, .sl (.pair (.int .i64) (.int .i64)) l.2), (17, .int .i64 (l.2.length : Int)), (18, .int .i64 st1), (55, .sl (.pair (.int .i64) (.int .i64)) (l.2.take st1.toNat)), (56, .int .i64 ((l.2.take st1.toNat).length : Int)), (57, .int .i64 st2)], hpGet [(1, .box 24 [.int .i64 l.1, .sl (.pair (.int .i64) (.int .i64)) l.2]), (4, .box 50 [.int .i64 (l.2.getD st1.toNat (0, 0)).1, .int .i64 (l.2.getD st1.toNat (0, 0)).2])], gt⟩) 0 hw24 (zL [] [] []) ?_
            as_aux_lemma =>
             intro st2 x27 h hd26
             unfold linealref03_Valid_b2 at h
             refine zo ?_
             refine zB [(1, .bp 1 0), (4, .bp 4 0), (16, .sl (.pair (.int .i64) (.int .i64)) l.2), (17, .int .i64 (l.2.length : Int)), (18, .int .i64 st1), (55, .sl (.pair (.int .i64) (.int .i64)) (l.2.take st1.toNat)), (56, .int .i64 ((l.2.take st1.toNat).length : Int)), (57, .int .i64 st2), (58, .bool (decide (st2 < ((l.2.take st1.toNat).length : Int))))] [(1, .box 24 [.int .i64 l.1, .sl (.pair (.int .i64) (.int .i64)) l.2]), (4, .box 50 [.int .i64 (l.2.getD st1.toNat (0, 0)).1, .int .i64 (l.2.getD st1.toNat (0, 0)).2])] ?_
             refine AW.seq ?_
             refine zQ h (fun hb29 h => ?_) (fun hb29 h => ?_)
             ·refine zk ?_
              refine AW.seq ?_
              refine AW.block ?_
              refine zo ?_
              obtain ⟨c30, h⟩ := ck_some.1 h
              obtain ⟨c31, h⟩ := ck_some.1 h
              refine zB [(1, .bp 1 0), (4, .bp 4 0), (6, .bp 6 0), (16, .sl (.pair (.int .i64) (.int .i64)) l.2), (17, .int .i64 (l.2.length : Int)), (18, .int .i64 st1), (55, .sl (.pair (.int .i64) (.int .i64)) (l.2.take st1.toNat)), (56, .int .i64 ((l.2.take st1.toNat).length : Int)), (57, .int .i64 st2)] [(1, .box 24 [.int .i64 l.1, .sl (.pair (.int .i64) (.int .i64)) l.2]), (4, .box 50 [.int .i64 (l.2.getD st1.toNat (0, 0)).1, .int .i64 (l.2.getD st1.toNat (0, 0)).2]), (6, .box 50 [.int .i64 ((l.2.take st1.toNat).getD st2.toNat (0, 0)).1, .int .i64 ((l.2.take st1.toNat).getD st2.toNat (0, 0)).2])] ?_
              refine zo ?_
              refine zS 2 [(1, .bp 1 0), (4, .bp 4 0), (16, .sl (.pair (.int .i64) (.int .i64)) l.2), (17, .int .i64 (l.2.length : Int)), (18, .int .i64 st1), (55, .sl (.pair (.int .i64) (.int .i64)) (l.2.take st1.toNat)), (56, .int .i64 ((l.2.take st1.toNat).length : Int)), (57, .int .i64 st2), (61, .agg [.int .i64 (l.2.getD st1.toNat (0, 0)).1, .int .i64 (l.2.getD st1.toNat (0, 0)).2]), (62, .agg [.int .i64 ((l.2.take st1.toNat).getD st2.toNat (0, 0)).1, .int .i64 ((l.2.take st1.toNat).getD st2.toNat (0, 0)).2])] [(1, .box 24 [.int .i64 l.1, .sl (.pair (.int .i64) (.int .i64)) l.2]), (4, .box 50 [.int .i64 (l.2.getD st1.toNat (0, 0)).1, .int .i64 (l.2.getD st1.toNat (0, 0)).2])] ?_
              obtain ⟨c32, h⟩ := ck_some.1 h
              obtain ⟨c33, h⟩ := ck_some.1 h
              obtain ⟨c34, h⟩ := ck_some.1 h
              obtain ⟨c35, h⟩ := ck_some.1 h
              refine AO.aggEq (neg := false) eqty_50 (by decide) rfl rfl (lx := [.int .i64 (l.2.getD st1.toNat (0, 0)).1, .int .i64 (l.2.getD st1.toNat (0, 0)).2]) (ly := [.int .i64 ((l.2.take st1.toNat).getD st2.toNat (0, 0)).1, .int .i64 ((l.2.take st1.toNat).getD st2.toNat (0, 0)).2]) (by first | rfl | (simp only [go_sem, hb1, hb3, hb9, hb13, hb15, hb17, hb19, hb21, hb29]) <;> (with_reducible and_intros) <;> first | assumption | rfl | omega | (unfold maxLen; omega)) (by first | rfl | (simp only [go_sem, hb1, hb3, hb9, hb13, hb15, hb17, hb19, hb21, hb29]) <;> (with_reducible and_intros) <;> first | assumption | rfl | omega | (unfold maxLen; omega)) (by first | rfl | (simp only [go_sem, hb1, hb3, hb9, hb13, hb15, hb17, hb19, hb21, hb29]) <;> (with_reducible and_intros) <;> first | assumption | rfl | omega | (unfold maxLen; omega)) (by first | rfl | (simp only [go_sem, hb1, hb3, hb9, hb13, hb15, hb17, hb19, hb21, hb29]) <;> (with_reducible and_intros) <;> first | assumption | rfl | omega | (unfold maxLen; omega)) (by first | assumption | omega | (simp only [go_sem, hb1, hb3, hb9, hb13, hb15, hb17, hb19, hb21, hb29]) <;> (with_reducible and_intros) <;> first | assumption | rfl | omega | (unfold maxLen; omega)) (by first | assumption | omega | (simp only [go_sem, hb1, hb3, hb9, hb13, hb15, hb17, hb19, hb21, hb29]) <;> (with_reducible and_intros) <;> first | assumption | rfl | omega | (unfold maxLen; omega)) ?_
              refine zT [(1, .bp 1 0), (4, .bp 4 0), (16, .sl (.pair (.int .i64) (.int .i64)) l.2), (17, .int .i64 (l.2.length : Int)), (18, .int .i64 st1), (55, .sl (.pair (.int .i64) (.int .i64)) (l.2.take st1.toNat)), (56, .int .i64 ((l.2.take st1.toNat).length : Int)), (57, .int .i64 st2), (63, .bool (decide ((l.2.getD st1.toNat (0, 0)) = ((l.2.take st1.toNat).getD st2.toNat (0, 0)))))] [(1, .box 24 [.int .i64 l.1, .sl (.pair (.int .i64) (.int .i64)) l.2]), (4, .box 50 [.int .i64 (l.2.getD st1.toNat (0, 0)).1, .int .i64 (l.2.getD st1.toNat (0, 0)).2])] gt ?_
              refine zB [(1, .bp 1 0), (4, .bp 4 0), (16, .sl (.pair (.int .i64) (.int .i64)) l.2), (17, .int .i64 (l.2.length : Int)), (18, .int .i64 st1), (55, .sl (.pair (.int .i64) (.int .i64)) (l.2.take st1.toNat)), (56, .int .i64 ((l.2.take st1.toNat).length : Int)), (57, .int .i64 st2), (63, .bool (decide ((l.2.getD st1.toNat (0, 0)) = ((l.2.take st1.toNat).getD st2.toNat (0, 0)))))] [(1, .box 24 [.int .i64 l.1, .sl (.pair (.int .i64) (.int .i64)) l.2]), (4, .box 50 [.int .i64 (l.2.getD st1.toNat (0, 0)).1, .int .i64 (l.2.getD st1.toNat (0, 0)).2])] ?_
              refine zQ h (fun hb36 h => ?_) (fun hb36 h => ?_)
              ·refine zo ?_
               refine zB [(2, .bool false)] [] ?_
               refine AW.ret ?_
               refine ablock_r ?_
               refine athen_r ?_
               obtain rfl := Option.some.inj h
               rw [← hd26 _ rfl] at ho25
               have h := ho25
               try simp only at h
               refine athen_r ?_
               refine ablock_r ?_
               refine ablock_r ?_
               refine athen_r ?_
               obtain rfl := Option.some.inj h
               rw [← hd6 _ rfl] at ho5
               have h := ho5
               try simp only at h
               refine athen_r ?_
               refine ablock_r ?_
               refine athen_r ?_
               obtain rfl := Option.some.inj h
               exact zR [] [] []
              ·refine zm ?_
               refine athen_n ?_
               refine AW.ops ?_
               obtain ⟨c37, h⟩ := ck_some.1 h
               refine zA [(1, .bp 1 0), (4, .bp 4 0), (16, .sl (.pair (.int .i64) (.int .i64)) l.2), (17, .int .i64 (l.2.length : Int)), (18, .int .i64 st1), (55, .sl (.pair (.int .i64) (.int .i64)) (l.2.take st1.toNat)), (56, .int .i64 ((l.2.take st1.toNat).length : Int)), (57, .int .i64 (st2 + 1))] [(1, .box 24 [.int .i64 l.1, .sl (.pair (.int .i64) (.int .i64)) l.2]), (4, .box 50 [.int .i64 (l.2.getD st1.toNat (0, 0)).1, .int .i64 (l.2.getD st1.toNat (0, 0)).2])] ?_
               obtain rfl := Option.some.inj h
               exact ⟨_, rfl, zL [] [] []⟩
             ·refine AW.exit ?_
              refine athen_e ?_
              obtain rfl := Option.some.inj h
              rw [← hd26 _ rfl] at ho25
              have h := ho25
              try simp only at h
              refine athen_e ?_
              refine ablock_s ?_
              refine ablock_n ?_
              refine athen_n ?_
              exact AW.weaken (zL [] [] []) (hk_linealref03_Valid_k2 () h)
     ·refine AW.exit ?_
      refine athen_e ?_
      obtain rfl := Option.some.inj h
      rw [← hd6 _ rfl] at ho5
      have h := ho5
      try simp only at h
      refine athen_e ?_
      refine ablock_s ?_
      refine athen_n ?_
      exact AW.weaken (zL [] [] []) (hk_linealref03_Valid_k1 () h)

theorem hc_linealref03_IsLetter (l : Int × (List (Int × Int))) (a : Int) {r : Bool} (h : linealref03_IsLetter l a = some r) : HC Try.prog 49 [] [.agg [.int .i64 l.1, .sl (.pair (.int .i64) (.int .i64)) l.2], .int .i64 a] [] (.bool r) := by
 unfold linealref03_IsLetter at h
 refine zH Try.func49 [.tmp 4] 13 ?_
 refine zo ?_
 refine zB [(1, .int .i64 a), (2, .bp 2 0)] [(2, .box 24 [.int .i64 l.1, .sl (.pair (.int .i64) (.int .i64)) l.2])] ?_
 refine zo ?_
 refine zS 3 [(1, .int .i64 a), (2, .bp 2 0), (7, .bool (decide (0 ≤ a)))] [(2, .box 24 [.int .i64 l.1, .sl (.pair (.int .i64) (.int .i64)) l.2])] ?_
 rcases zI h with ⟨hb1, h⟩ | ⟨hb1, h⟩
 ·refine zS 5 [(12, .bool (decide (a < l.1)))] [] ?_
  refine zB [(4, .bool (decide (a < l.1)))] [] ?_
  refine AW.ret ?_
  obtain rfl := Option.some.inj h
  exact zR [] [] []
 ·refine zS 4 [(7, .bool false), (11, .cv (undef))] [] ?_
  refine zB [(4, .bool false)] [] ?_
  refine AW.ret ?_
  obtain rfl := Option.some.inj h
  exact zR [] [] []

theorem hc_linealref03_IsWord (l : Int × (List (Int × Int))) (w : List Int) {r : Bool} (h : linealref03_IsWord l w = some r) : HC Try.prog 25 [] [.agg [.int .i64 l.1, .sl (.pair (.int .i64) (.int .i64)) l.2], .sl (.int .i64) w] [] (.bool r) := by
 unfold linealref03_IsWord at h
 refine zH Try.func25 [.tmp 4] 21 ?_
 refine zo ?_
 refine zB [(1, .sl (.int .i64) w), (2, .bp 2 0)] [(2, .box 24 [.int .i64 l.1, .sl (.pair (.int .i64) (.int .i64)) l.2])] ?_
 refine AW.have1 (fun _ : Unit => linealref03_IsWord_k1 w = some r) (fun _ => ⟨fr [(1, .sl (.int .i64) w)], hpGet [], gt⟩) (fun _ h => ?_) (fun hk_linealref03_IsWord_k1 => ?_)
 ·as_aux_lemma =>
   unfold linealref03_IsWord_k1 at h
   refine zo ?_
   refine zB [(4, .bool (decide ((w.length : Int) ≤ 10)))] [] ?_
   refine AW.ret ?_
   obtain rfl := Option.some.inj h
   exact zR [] [] []
 ·refine AW.seq ?_
  refine zo ?_
  refine zB [(1, .sl (.int .i64) w), (2, .bp 2 0), (7, .sl (.int .i64) w), (8, .int .i64 (w.length : Int)), (9, .int .i64 0)] [(2, .box 24 [.int .i64 l.1, .sl (.pair (.int .i64) (.int .i64)) l.2])] ?_
  refine AW.block ?_
  obtain ⟨rv5, hw1, ho2⟩ := Option.bind_eq_some_iff.1 h
  refine AW.loopO (linealref03_IsWord_b1 l w) (fun st1 => ⟨fr [(1, .sl (.int .i64) w), (2, .bp 2 0), (7, .sl (.int .i64) w), (8, .int .i64 (w.length : Int)), (9, .int .i64 st1)], hpGet [(2, .box 24 [.int .i64 l.1, .sl (.pair (.int .i64) (.int .i64)) l.2])], gt⟩) 0 hw1 (zL [] [] []) ?_
  as_aux_lemma =>
   intro st1 x4 h hd3
   unfold linealref03_IsWord_b1 at h
   refine zo ?_
   refine zB [(1, .sl (.int .i64) w), (2, .bp 2 0), (7, .sl (.int .i64) w), (8, .int .i64 (w.length : Int)), (9, .int .i64 st1), (10, .bool (decide (st1 < (w.length : Int))))] [(2, .box 24 [.int .i64 l.1, .sl (.pair (.int .i64) (.int .i64)) l.2])] ?_
   refine AW.seq ?_
   refine zQ h (fun hb6 h => ?_) (fun hb6 h => ?_)
   ·refine zk ?_
    refine AW.seq ?_
    refine AW.block ?_
    refine zo ?_
    obtain ⟨c7, h⟩ := ck_some.1 h
    obtain ⟨c8, h⟩ := ck_some.1 h
    refine zB [(1, .sl (.int .i64) w), (2, .bp 2 0), (6, .int .i64 (w.getD st1.toNat 0)), (7, .sl (.int .i64) w), (8, .int .i64 (w.length : Int)), (9, .int .i64 st1)] [(2, .box 24 [.int .i64 l.1, .sl (.pair (.int .i64) (.int .i64)) l.2])] ?_
    refine zo ?_
    refine zS 2 [(1, .sl (.int .i64) w), (2, .bp 2 0), (7, .sl (.int .i64) w), (8, .int .i64 (w.length : Int)), (9, .int .i64 st1), (13, .agg [.int .i64 l.1, .sl (.pair (.int .i64) (.int .i64)) l.2]), (14, .int .i64 (w.getD st1.toNat 0))] [(2, .box 24 [.int .i64 l.1, .sl (.pair (.int .i64) (.int .i64)) l.2])] ?_
    obtain ⟨v0, hv9, h⟩ := Option.bind_eq_some_iff.1 h
    refine zC [] [] (hc_linealref03_IsLetter l (w.getD st1.toNat 0) hv9) [(1, .sl (.int .i64) w), (2, .bp 2 0), (7, .sl (.int .i64) w), (8, .int .i64 (w.length : Int)), (9, .int .i64 st1), (15, .bool v0)] [(2, .box 24 [.int .i64 l.1, .sl (.pair (.int .i64) (.int .i64)) l.2])] ?_
    refine zB [(1, .sl (.int .i64) w), (2, .bp 2 0), (7, .sl (.int .i64) w), (8, .int .i64 (w.length : Int)), (9, .int .i64 st1), (16, .bool (!v0))] [(2, .box 24 [.int .i64 l.1, .sl (.pair (.int .i64) (.int .i64)) l.2])] ?_
    refine zQ h (fun hb10 h => ?_) (fun hb10 h => ?_)
    ·refine zo ?_
     refine zB [(4, .bool false)] [] ?_
     refine AW.ret ?_
     refine ablock_r ?_
     refine athen_r ?_
     obtain rfl := Option.some.inj h
     rw [← hd3 _ rfl] at ho2
     have h := ho2
     try simp only at h
     refine athen_r ?_
     refine ablock_r ?_
     refine athen_r ?_
     obtain rfl := Option.some.inj h
     exact zR [] [] []
    ·refine zm ?_
     refine athen_n ?_
     refine AW.ops ?_
     obtain ⟨c11, h⟩ := ck_some.1 h
     refine zA [(1, .sl (.int .i64) w), (2, .bp 2 0), (7, .sl (.int .i64) w), (8, .int .i64 (w.length : Int)), (9, .int .i64 (st1 + 1))] [(2, .box 24 [.int .i64 l.1, .sl (.pair (.int .i64) (.int .i64)) l.2])] ?_
     obtain rfl := Option.some.inj h
     exact ⟨_, rfl, zL [] [] []⟩
   ·refine AW.exit ?_
    refine athen_e ?_
    obtain rfl := Option.some.inj h
    rw [← hd3 _ rfl] at ho2
    have h := ho2
    try simp only at h
    refine athen_e ?_
    refine ablock_s ?_
    refine athen_n ?_
    exact AW.weaken (zL [] [] []) (hk_linealref03_IsWord_k1 () h)

theorem hc_lineallaw03_valid (l : Int × (List (Int × Int))) (words : List (List Int)) {r : Bool} (h : lineallaw03_valid l words = some r) : HC Try.prog 21 [] [.agg [.int .i64 l.1, .sl (.pair (.int .i64) (.int .i64)) l.2], .sl (.sl (.int .i64)) words] [] (.bool r) := by
 unfold lineallaw03_valid at h
 refine zH Try.func21 [.tmp 4] 26 ?_
 refine zo ?_
 refine zB [(1, .sl (.sl (.int .i64)) words), (2, .bp 2 0)] [(2, .box 24 [.int .i64 l.1, .sl (.pair (.int .i64) (.int .i64)) l.2])] ?_
 refine AW.seq ?_
 refine zo ?_
 refine zS 2 [(1, .sl (.sl (.int .i64)) words), (2, .bp 2 0), (7, .agg [.int .i64 l.1, .sl (.pair (.int .i64) (.int .i64)) l.2]), (8, .sl (.sl (.int .i64)) words)] [(2, .box 24 [.int .i64 l.1, .sl (.pair (.int .i64) (.int .i64)) l.2])] ?_
 obtain ⟨v0, hv1, h⟩ := Option.bind_eq_some_iff.1 h
 refine zC [] [] (hc_lineallaw03_Long l words hv1) [(1, .sl (.sl (.int .i64)) words), (2, .bp 2 0), (9, .bool v0)] [(2, .box 24 [.int .i64 l.1, .sl (.pair (.int .i64) (.int .i64)) l.2])] ?_
 refine zS 1 [(1, .sl (.sl (.int .i64)) words), (2, .bp 2 0), (10, .bool v0)] [(2, .box 24 [.int .i64 l.1, .sl (.pair (.int .i64) (.int .i64)) l.2])] ?_
 rcases zI h with ⟨hb2, h⟩ | ⟨hb2, h⟩
 ·refine zB [(1, .sl (.sl (.int .i64)) words), (2, .bp 2 0), (14, .bool true)] [(2, .box 24 [.int .i64 l.1, .sl (.pair (.int .i64) (.int .i64)) l.2])] ?_
  refine AW.cond (b := true) rfl (fun _ => ?_) (fun hb3 => by cases hb3)
  refine zo ?_
  refine zB [(4, .bool false)] [] ?_
  refine zr ?_
  obtain rfl := Option.some.inj h
  exact zR [] [] []
 ·refine zS 1 [(1, .sl (.sl (.int .i64)) words), (2, .bp 2 0), (10, .bool false), (11, .agg [.int .i64 l.1, .sl (.pair (.int .i64) (.int .i64)) l.2])] [(2, .box 24 [.int .i64 l.1, .sl (.pair (.int .i64) (.int .i64)) l.2])] ?_
  obtain ⟨v0_2, hv4, h⟩ := Option.bind_eq_some_iff.1 h
  refine zG [] [] (hc_linealref03_Valid l hv4) [(1, .sl (.sl (.int .i64)) words), (2, .bp 2 0), (10, .bool false), (12, .bool v0_2)] [(2, .box 24 [.int .i64 l.1, .sl (.pair (.int .i64) (.int .i64)) l.2])] ?_
  refine zB [(1, .sl (.sl (.int .i64)) words), (2, .bp 2 0), (14, .bool (!v0_2))] [(2, .box 24 [.int .i64 l.1, .sl (.pair (.int .i64) (.int .i64)) l.2])] ?_
  refine zQ h (fun hb5 h => ?_) (fun hb5 h => ?_)
  ·refine zo ?_
   refine zB [(4, .bool false)] [] ?_
   refine zr ?_
   obtain rfl := Option.some.inj h
   exact zR [] [] []
  ·refine zk ?_
   refine AW.have1 (fun _ : Unit => lineallaw03_valid_k1 = some r) (fun _ => ⟨fr [], hpGet [], gt⟩) (fun _ h => ?_) (fun hk_lineallaw03_valid_k1 => ?_)
   ·as_aux_lemma =>
     unfold lineallaw03_valid_k1 at h
     refine zo ?_
     refine zB [(4, .bool true)] [] ?_
     refine AW.ret ?_
     obtain rfl := Option.some.inj h
     exact zR [] [] []
   ·refine AW.seq ?_
    refine zo ?_
    refine zB [(2, .bp 2 0), (15, .sl (.sl (.int .i64)) words), (16, .int .i64 (words.length : Int)), (17, .int .i64 0)] [(2, .box 24 [.int .i64 l.1, .sl (.pair (.int .i64) (.int .i64)) l.2])] ?_
    refine AW.block ?_
    obtain ⟨rv10, hw6, ho7⟩ := Option.bind_eq_some_iff.1 h
    refine AW.loopO (lineallaw03_valid_b1 l words) (fun st1 => ⟨fr [(2, .bp 2 0), (15, .sl (.sl (.int .i64)) words), (16, .int .i64 (words.length : Int)), (17, .int .i64 st1)], hpGet [(2, .box 24 [.int .i64 l.1, .sl (.pair (.int .i64) (.int .i64)) l.2])], gt⟩) 0 hw6 (zL [] [] []) ?_
    as_aux_lemma =>
     intro st1 x9 h hd8
     unfold lineallaw03_valid_b1 at h
     refine zo ?_
     refine zB [(2, .bp 2 0), (15, .sl (.sl (.int .i64)) words), (16, .int .i64 (words.length : Int)), (17, .int .i64 st1), (18, .bool (decide (st1 < (words.length : Int))))] [(2, .box 24 [.int .i64 l.1, .sl (.pair (.int .i64) (.int .i64)) l.2])] ?_
     refine AW.seq ?_
     refine zQ h (fun hb11 h => ?_) (fun hb11 h => ?_)
     ·refine zk ?_
      refine AW.seq ?_
      refine AW.block ?_
      refine zo ?_
      obtain ⟨c12, h⟩ := ck_some.1 h
      obtain ⟨c13, h⟩ := ck_some.1 h
      refine zB [(2, .bp 2 0), (6, .sl (.int .i64) (words.getD st1.toNat [])), (15, .sl (.sl (.int .i64)) words), (16, .int .i64 (words.length : Int)), (17, .int .i64 st1)] [(2, .box 24 [.int .i64 l.1, .sl (.pair (.int .i64) (.int .i64)) l.2])] ?_
      refine zo ?_
      refine zS 2 [(2, .bp 2 0), (15, .sl (.sl (.int .i64)) words), (16, .int .i64 (words.length : Int)), (17, .int .i64 st1), (21, .agg [.int .i64 l.1, .sl (.pair (.int .i64) (.int .i64)) l.2]), (22, .sl (.int .i64) (words.getD st1.toNat []))] [(2, .box 24 [.int .i64 l.1, .sl (.pair (.int .i64) (.int .i64)) l.2])] ?_
      obtain ⟨v0_3, hv14, h⟩ := Option.bind_eq_some_iff.1 h
      refine zC [] [] (hc_linealref03_IsWord l (words.getD st1.toNat []) hv14) [(2, .bp 2 0), (15, .sl (.sl (.int .i64)) words), (16, .int .i64 (words.length : Int)), (17, .int .i64 st1), (23, .bool v0_3)] [(2, .box 24 [.int .i64 l.1, .sl (.pair (.int .i64) (.int .i64)) l.2])] ?_
      refine zB [(2, .bp 2 0), (15, .sl (.sl (.int .i64)) words), (16, .int .i64 (words.length : Int)), (17, .int .i64 st1), (24, .bool (!v0_3))] [(2, .box 24 [.int .i64 l.1, .sl (.pair (.int .i64) (.int .i64)) l.2])] ?_
      refine zQ h (fun hb15 h => ?_) (fun hb15 h => ?_)
      ·refine zo ?_
       refine zB [(4, .bool false)] [] ?_
       refine AW.ret ?_
       refine ablock_r ?_
       refine athen_r ?_
       obtain rfl := Option.some.inj h
       rw [← hd8 _ rfl] at ho7
       have h := ho7
       try simp only at h
       refine athen_r ?_
       refine ablock_r ?_
       refine athen_r ?_
       obtain rfl := Option.some.inj h
       exact zR [] [] []
      ·refine zm ?_
       refine athen_n ?_
       refine AW.ops ?_
       obtain ⟨c16, h⟩ := ck_some.1 h
       refine zA [(2, .bp 2 0), (15, .sl (.sl (.int .i64)) words), (16, .int .i64 (words.length : Int)), (17, .int .i64 (st1 + 1))] [(2, .box 24 [.int .i64 l.1, .sl (.pair (.int .i64) (.int .i64)) l.2])] ?_
       obtain rfl := Option.some.inj h
       exact ⟨_, rfl, zL [] [] []⟩
     ·refine AW.exit ?_
      refine athen_e ?_
      obtain rfl := Option.some.inj h
      rw [← hd8 _ rfl] at ho7
      have h := ho7
      try simp only at h
      refine athen_e ?_
      refine ablock_s ?_
      refine athen_n ?_
      exact AW.weaken (zL [] [] []) (hk_lineallaw03_valid_k1 () h)

theorem hc_cmp_isNaN (x0 : Int) {r : Unit} (h : cmp_isNaN x0 = some r) : HC Try.prog 87 [] [.int .i64 x0] [] (.bool false) := by
 unfold cmp_isNaN at h
 refine zH Try.func87 [.tmp 2] 6 ?_
 refine zo ?_
 refine zB [(0, .int .i64 x0)] [] ?_
 refine zo ?_
 refine zB [(2, .bool false)] [] ?_
 refine AW.ret ?_
 obtain rfl := Option.some.inj h
 exact zR [] [] []

theorem hc_cmp_Less (x0 : Int) (y : Int) {r : Unit} (h : cmp_Less x0 y = some r) : HC Try.prog 77 [] [.int .i64 x0, .int .i64 y] [] (.bool (decide (x0 < y))) := by
 unfold cmp_Less at h
 refine zH Try.func77 [.tmp 4] 17 ?_
 refine zo ?_
 refine zB [(0, .int .i64 x0), (1, .int .i64 y)] [] ?_
 refine zo ?_
 refine zS 1 [(0, .int .i64 x0), (1, .int .i64 y), (5, .int .i64 x0)] [] ?_
 obtain ⟨v0, hv1, h⟩ := Option.bind_eq_some_iff.1 h
 refine zC [] [] (hc_cmp_isNaN x0 hv1) [(0, .int .i64 x0), (1, .int .i64 y), (6, .bool false)] [] ?_
 refine zS 5 [(0, .int .i64 x0), (1, .int .i64 y), (11, .bool false)] [] ?_
 refine zS 5 [(16, .bool (decide (x0 < y)))] [] ?_
 refine zB [(4, .bool (decide (x0 < y)))] [] ?_
 refine AW.ret ?_
 obtain rfl := Option.some.inj h
 exact zR [] [] []

end Go.Proofs.Ytabchabbdnhjpaa
