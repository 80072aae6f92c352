/-
  Made by wip/tool/dc.py out of the print of the program: contracts.
-/
import Derived.Test.YtabchabbdnhjpaaVp
import Derived.Test.YtabchabbdnhjpaaSh6
import Derived.Test.YtabchabbdnhjpaaAvd
namespace Go.Proofs.Ytabchabbdnhjpaa
open Go.RowKit

set_option linter.unusedSimpArgs false
set_option linter.unusedVariables false
set_option linter.constructorNameAsVariable false

set_option maxRecDepth 100000
set_option maxHeartbeats 2000000

theorem hc_linealref03_Valid (l : Int × (List (Int × Int))) {r : Bool} (h : linealref03_Valid l = some r) : HC Try.prog 27 [] [.agg [.int .i64 l.1, .sl (.pair (.int .i64) (.int .i64)) l.2]] [] (.bool r) := by
 unfold linealref03_Valid at h
 refine zH Try.func27 [.tmp 2] 66 ?_
 refine zo ?_
 refine zB [(1, .bp 1 0)] [(1, .box 24 [.int .i64 l.1, .sl (.pair (.int .i64) (.int .i64)) l.2])] ?_
 refine AW.seq ?_
 refine zo ?_
 refine zS 4 [(1, .bp 1 0), (10, .bool (decide (l.1 < 1)))] [(1, .box 24 [.int .i64 l.1, .sl (.pair (.int .i64) (.int .i64)) l.2])] ?_
 rcases zI h with ⟨hb1, h⟩ | ⟨hb1, h⟩
 ·refine zB [(1, .bp 1 0), (14, .bool true)] [(1, .box 24 [.int .i64 l.1, .sl (.pair (.int .i64) (.int .i64)) l.2])] ?_
  refine AW.cond (b := true) rfl (fun _ => ?_) (fun hb2 => by cases hb2)
  refine zo ?_
  refine zB [(2, .bool false)] [] ?_
  refine zr ?_
  obtain rfl := Option.some.inj h
  exact zR [] [] []
 ·refine zB [(1, .bp 1 0), (14, .bool (decide (6 < l.1)))] [(1, .box 24 [.int .i64 l.1, .sl (.pair (.int .i64) (.int .i64)) l.2])] ?_
  refine zQ h (fun hb3 h => ?_) (fun hb3 h => ?_)
  ·refine zo ?_
   refine zB [(2, .bool false)] [] ?_
   refine zr ?_
   obtain rfl := Option.some.inj h
   exact zR [] [] []
  ·refine zk ?_
   refine AW.have1 (fun _ : Unit => linealref03_Valid_k1 = some r) (fun _ => ⟨fr [], hpGet [], gt⟩) (fun _ h => ?_) (fun hk_linealref03_Valid_k1 => ?_)
   ·as_aux_lemma =>
     unfold linealref03_Valid_k1 at h
     refine zo ?_
     refine zB [(2, .bool true)] [] ?_
     refine AW.ret ?_
     obtain rfl := Option.some.inj h
     exact zR [] [] []
   ·refine AW.seq ?_
    refine zo ?_
    refine zB [(1, .bp 1 0), (16, .sl (.pair (.int .i64) (.int .i64)) l.2), (17, .int .i64 (l.2.length : Int)), (18, .int .i64 0)] [(1, .box 24 [.int .i64 l.1, .sl (.pair (.int .i64) (.int .i64)) l.2])] ?_
    refine AW.block ?_
    obtain ⟨rv8, hw4, ho5⟩ := Option.bind_eq_some_iff.1 h
    refine AW.loopO (linealref03_Valid_b1 l) (fun st1 => ⟨fr [(1, .bp 1 0), (16, .sl (.pair (.int .i64) (.int .i64)) l.2), (17, .int .i64 (l.2.length : Int)), (18, .int .i64 st1)], hpGet [(1, .box 24 [.int .i64 l.1, .sl (.pair (.int .i64) (.int .i64)) l.2])], gt⟩) 0 hw4 (zL [] [] []) ?_
    as_aux_lemma =>
     intro st1 x7 h hd6
     unfold linealref03_Valid_b1 at h
     refine zo ?_
     refine zB [(1, .bp 1 0), (16, .sl (.pair (.int .i64) (.int .i64)) l.2), (17, .int .i64 (l.2.length : Int)), (18, .int .i64 st1), (19, .bool (decide (st1 < (l.2.length : Int))))] [(1, .box 24 [.int .i64 l.1, .sl (.pair (.int .i64) (.int .i64)) l.2])] ?_
     refine AW.seq ?_
     refine zQ h (fun hb9 h => ?_) (fun hb9 h => ?_)
     ·refine zk ?_
      refine AW.have1 (fun _ : Unit => linealref03_Valid_k2 st1 = some x7) (fun _ => ⟨fr [(1, .bp 1 0), (16, .sl (.pair (.int .i64) (.int .i64)) l.2), (17, .int .i64 (l.2.length : Int)), (18, .int .i64 st1)], hpGet [(1, .box 24 [.int .i64 l.1, .sl (.pair (.int .i64) (.int .i64)) l.2])], gt⟩) (fun _ h => ?_) (fun hk_linealref03_Valid_k2 => ?_)
      ·as_aux_lemma =>
        unfold linealref03_Valid_k2 at h
        refine AW.ops ?_
        obtain ⟨c10, h⟩ := ck_some.1 h
        refine zA [(1, .bp 1 0), (16, .sl (.pair (.int .i64) (.int .i64)) l.2), (17, .int .i64 (l.2.length : Int)), (18, .int .i64 (st1 + 1))] [(1, .box 24 [.int .i64 l.1, .sl (.pair (.int .i64) (.int .i64)) l.2])] ?_
        obtain rfl := Option.some.inj h
        exact ⟨_, rfl, zL [] [] []⟩
      ·refine AW.seq ?_
       refine AW.block ?_
       refine zo ?_
       obtain ⟨c11, h⟩ := ck_some.1 h
       obtain ⟨c12, h⟩ := ck_some.1 h
       refine zS 5 [(1, .bp 1 0), (3, .int .i64 st1), (4, .bp 4 0), (16, .sl (.pair (.int .i64) (.int .i64)) l.2), (17, .int .i64 (l.2.length : Int)), (18, .int .i64 st1), (22, .agg [.int .i64 (l.2.getD st1.toNat (0, 0)).1, .int .i64 (l.2.getD st1.toNat (0, 0)).2])] [(1, .box 24 [.int .i64 l.1, .sl (.pair (.int .i64) (.int .i64)) l.2]), (4, .box 50 [.int .i64 0, .int .i64 0])] ?_
       refine zB [(1, .bp 1 0), (3, .int .i64 st1), (4, .bp 4 0), (16, .sl (.pair (.int .i64) (.int .i64)) l.2), (17, .int .i64 (l.2.length : Int)), (18, .int .i64 st1)] [(1, .box 24 [.int .i64 l.1, .sl (.pair (.int .i64) (.int .i64)) l.2]), (4, .box 50 [.int .i64 (l.2.getD st1.toNat (0, 0)).1, .int .i64 (l.2.getD st1.toNat (0, 0)).2])] ?_
       refine AW.seq ?_
       refine zo ?_
       refine zS 4 [(1, .bp 1 0), (3, .int .i64 st1), (4, .bp 4 0), (16, .sl (.pair (.int .i64) (.int .i64)) l.2), (17, .int .i64 (l.2.length : Int)), (18, .int .i64 st1), (26, .bool (decide ((l.2.getD st1.toNat (0, 0)).1 < 0)))] [(1, .box 24 [.int .i64 l.1, .sl (.pair (.int .i64) (.int .i64)) l.2]), (4, .box 50 [.int .i64 (l.2.getD st1.toNat (0, 0)).1, .int .i64 (l.2.getD st1.toNat (0, 0)).2])] ?_
       rcases zI h with ⟨hb13, h⟩ | ⟨hb13, h⟩
       ·refine zS 5 [(1, .bp 1 0), (3, .int .i64 st1), (4, .bp 4 0), (16, .sl (.pair (.int .i64) (.int .i64)) l.2), (17, .int .i64 (l.2.length : Int)), (18, .int .i64 st1), (31, .bool true)] [(1, .box 24 [.int .i64 l.1, .sl (.pair (.int .i64) (.int .i64)) l.2]), (4, .box 50 [.int .i64 (l.2.getD st1.toNat (0, 0)).1, .int .i64 (l.2.getD st1.toNat (0, 0)).2])] ?_
        refine zS 4 [(1, .bp 1 0), (3, .int .i64 st1), (4, .bp 4 0), (16, .sl (.pair (.int .i64) (.int .i64)) l.2), (17, .int .i64 (l.2.length : Int)), (18, .int .i64 st1), (31, .bool true), (33, .cv (undef)), (35, .cv (undef))] [(1, .box 24 [.int .i64 l.1, .sl (.pair (.int .i64) (.int .i64)) l.2]), (4, .box 50 [.int .i64 (l.2.getD st1.toNat (0, 0)).1, .int .i64 (l.2.getD st1.toNat (0, 0)).2])] ?_
        refine zS 5 [(1, .bp 1 0), (3, .int .i64 st1), (4, .bp 4 0), (16, .sl (.pair (.int .i64) (.int .i64)) l.2), (17, .int .i64 (l.2.length : Int)), (18, .int .i64 st1), (38, .bool true), (40, .cv (undef))] [(1, .box 24 [.int .i64 l.1, .sl (.pair (.int .i64) (.int .i64)) l.2]), (4, .box 50 [.int .i64 (l.2.getD st1.toNat (0, 0)).1, .int .i64 (l.2.getD st1.toNat (0, 0)).2])] ?_
        refine zS 5 [(1, .bp 1 0), (3, .int .i64 st1), (4, .bp 4 0), (16, .sl (.pair (.int .i64) (.int .i64)) l.2), (17, .int .i64 (l.2.length : Int)), (18, .int .i64 st1), (45, .bool true)] [(1, .box 24 [.int .i64 l.1, .sl (.pair (.int .i64) (.int .i64)) l.2]), (4, .box 50 [.int .i64 (l.2.getD st1.toNat (0, 0)).1, .int .i64 (l.2.getD st1.toNat (0, 0)).2])] ?_
        refine zS 4 [(1, .bp 1 0), (3, .int .i64 st1), (4, .bp 4 0), (16, .sl (.pair (.int .i64) (.int .i64)) l.2), (17, .int .i64 (l.2.length : Int)), (18, .int .i64 st1), (45, .bool true), (47, .cv (undef)), (49, .cv (undef))] [(1, .box 24 [.int .i64 l.1, .sl (.pair (.int .i64) (.int .i64)) l.2]), (4, .box 50 [.int .i64 (l.2.getD st1.toNat (0, 0)).1, .int .i64 (l.2.getD st1.toNat (0, 0)).2])] ?_
        refine zB [(1, .bp 1 0), (3, .int .i64 st1), (4, .bp 4 0), (16, .sl (.pair (.int .i64) (.int .i64)) l.2), (17, .int .i64 (l.2.length : Int)), (18, .int .i64 st1), (51, .bool true)] [(1, .box 24 [.int .i64 l.1, .sl (.pair (.int .i64) (.int .i64)) l.2]), (4, .box 50 [.int .i64 (l.2.getD st1.toNat (0, 0)).1, .int .i64 (l.2.getD st1.toNat (0, 0)).2])] ?_
        refine AW.cond (b := true) rfl (fun _ => ?_) (fun hb14 => by cases hb14)
        refine zo ?_
        refine zB [(2, .bool false)] [] ?_
        refine zr ?_
        refine ablock_r ?_
        refine athen_r ?_
        obtain rfl := Option.some.inj h
        rw [← hd6 _ rfl] at ho5
        have h := ho5
        try simp only at h
        refine athen_r ?_
        refine ablock_r ?_
        refine athen_r ?_
        obtain rfl := Option.some.inj h
        exact zR [] [] []
       ·refine zS 5 [(1, .bp 1 0), (3, .int .i64 st1), (4, .bp 4 0), (16, .sl (.pair (.int .i64) (.int .i64)) l.2), (17, .int .i64 (l.2.length : Int)), (18, .int .i64 st1), (31, .bool (decide ((l.2.getD st1.toNat (0, 0)).2 < 0)))] [(1, .box 24 [.int .i64 l.1, .sl (.pair (.int .i64) (.int .i64)) l.2]), (4, .box 50 [.int .i64 (l.2.getD st1.toNat (0, 0)).1, .int .i64 (l.2.getD st1.toNat (0, 0)).2])] ?_
        rcases zI h with ⟨hb15, h⟩ | ⟨hb15, h⟩
        ·refine zS 4 [(1, .bp 1 0), (3, .int .i64 st1), (4, .bp 4 0), (16, .sl (.pair (.int .i64) (.int .i64)) l.2), (17, .int .i64 (l.2.length : Int)), (18, .int .i64 st1), (31, .bool true), (33, .cv (undef)), (35, .cv (undef))] [(1, .box 24 [.int .i64 l.1, .sl (.pair (.int .i64) (.int .i64)) l.2]), (4, .box 50 [.int .i64 (l.2.getD st1.toNat (0, 0)).1, .int .i64 (l.2.getD st1.toNat (0, 0)).2])] ?_
         refine zS 5 [(1, .bp 1 0), (3, .int .i64 st1), (4, .bp 4 0), (16, .sl (.pair (.int .i64) (.int .i64)) l.2), (17, .int .i64 (l.2.length : Int)), (18, .int .i64 st1), (38, .bool true), (40, .cv (undef))] [(1, .box 24 [.int .i64 l.1, .sl (.pair (.int .i64) (.int .i64)) l.2]), (4, .box 50 [.int .i64 (l.2.getD st1.toNat (0, 0)).1, .int .i64 (l.2.getD st1.toNat (0, 0)).2])] ?_
         refine zS 5 [(1, .bp 1 0), (3, .int .i64 st1), (4, .bp 4 0), (16, .sl (.pair (.int .i64) (.int .i64)) l.2), (17, .int .i64 (l.2.length : Int)), (18, .int .i64 st1), (45, .bool true)] [(1, .box 24 [.int .i64 l.1, .sl (.pair (.int .i64) (.int .i64)) l.2]), (4, .box 50 [.int .i64 (l.2.getD st1.toNat (0, 0)).1, .int .i64 (l.2.getD st1.toNat (0, 0)).2])] ?_
         refine zS 4 [(1, .bp 1 0), (3, .int .i64 st1), (4, .bp 4 0), (16, .sl (.pair (.int .i64) (.int .i64)) l.2), (17, .int .i64 (l.2.length : Int)), (18, .int .i64 st1), (45, .bool true), (47, .cv (undef)), (49, .cv (undef))] [(1, .box 24 [.int .i64 l.1, .sl (.pair (.int .i64) (.int .i64)) l.2]), (4, .box 50 [.int .i64 (l.2.getD st1.toNat (0, 0)).1, .int .i64 (l.2.getD st1.toNat (0, 0)).2])] ?_
         refine zB [(1, .bp 1 0), (3, .int .i64 st1), (4, .bp 4 0), (16, .sl (.pair (.int .i64) (.int .i64)) l.2), (17, .int .i64 (l.2.length : Int)), (18, .int .i64 st1), (51, .bool true)] [(1, .box 24 [.int .i64 l.1, .sl (.pair (.int .i64) (.int .i64)) l.2]), (4, .box 50 [.int .i64 (l.2.getD st1.toNat (0, 0)).1, .int .i64 (l.2.getD st1.toNat (0, 0)).2])] ?_
         refine AW.cond (b := true) rfl (fun _ => ?_) (fun hb16 => by cases hb16)
         refine zo ?_
         refine zB [(2, .bool false)] [] ?_
         refine zr ?_
         refine ablock_r ?_
         refine athen_r ?_
         obtain rfl := Option.some.inj h
         rw [← hd6 _ rfl] at ho5
         have h := ho5
         try simp only at h
         refine athen_r ?_
         refine ablock_r ?_
         refine athen_r ?_
         obtain rfl := Option.some.inj h
         exact zR [] [] []
        ·refine zS 5 [(1, .bp 1 0), (3, .int .i64 st1), (4, .bp 4 0), (16, .sl (.pair (.int .i64) (.int .i64)) l.2), (17, .int .i64 (l.2.length : Int)), (18, .int .i64 st1), (31, .bool false), (36, .bool (decide (l.1 ≤ (l.2.getD st1.toNat (0, 0)).1)))] [(1, .box 24 [.int .i64 l.1, .sl (.pair (.int .i64) (.int .i64)) l.2]), (4, .box 50 [.int .i64 (l.2.getD st1.toNat (0, 0)).1, .int .i64 (l.2.getD st1.toNat (0, 0)).2])] ?_
         refine zS 2 [(1, .bp 1 0), (3, .int .i64 st1), (4, .bp 4 0), (16, .sl (.pair (.int .i64) (.int .i64)) l.2), (17, .int .i64 (l.2.length : Int)), (18, .int .i64 st1), (38, .bool (decide (l.1 ≤ (l.2.getD st1.toNat (0, 0)).1)))] [(1, .box 24 [.int .i64 l.1, .sl (.pair (.int .i64) (.int .i64)) l.2]), (4, .box 50 [.int .i64 (l.2.getD st1.toNat (0, 0)).1, .int .i64 (l.2.getD st1.toNat (0, 0)).2])] ?_
         rcases zI h with ⟨hb17, h⟩ | ⟨hb17, h⟩
         ·refine zS 4 [(1, .bp 1 0), (3, .int .i64 st1), (4, .bp 4 0), (16, .sl (.pair (.int .i64) (.int .i64)) l.2), (17, .int .i64 (l.2.length : Int)), (18, .int .i64 st1), (38, .bool true), (40, .cv (undef)), (42, .cv (undef))] [(1, .box 24 [.int .i64 l.1, .sl (.pair (.int .i64) (.int .i64)) l.2]), (4, .box 50 [.int .i64 (l.2.getD st1.toNat (0, 0)).1, .int .i64 (l.2.getD st1.toNat (0, 0)).2])] ?_
          refine zS 5 [(1, .bp 1 0), (3, .int .i64 st1), (4, .bp 4 0), (16, .sl (.pair (.int .i64) (.int .i64)) l.2), (17, .int .i64 (l.2.length : Int)), (18, .int .i64 st1), (45, .bool true), (47, .cv (undef))] [(1, .box 24 [.int .i64 l.1, .sl (.pair (.int .i64) (.int .i64)) l.2]), (4, .box 50 [.int .i64 (l.2.getD st1.toNat (0, 0)).1, .int .i64 (l.2.getD st1.toNat (0, 0)).2])] ?_
          refine zB [(1, .bp 1 0), (3, .int .i64 st1), (4, .bp 4 0), (16, .sl (.pair (.int .i64) (.int .i64)) l.2), (17, .int .i64 (l.2.length : Int)), (18, .int .i64 st1), (51, .bool true)] [(1, .box 24 [.int .i64 l.1, .sl (.pair (.int .i64) (.int .i64)) l.2]), (4, .box 50 [.int .i64 (l.2.getD st1.toNat (0, 0)).1, .int .i64 (l.2.getD st1.toNat (0, 0)).2])] ?_
          refine AW.cond (b := true) rfl (fun _ => ?_) (fun hb18 => by cases hb18)
          refine zo ?_
          refine zB [(2, .bool false)] [] ?_
          refine zr ?_
          refine ablock_r ?_
          refine athen_r ?_
          obtain rfl := Option.some.inj h
          rw [← hd6 _ rfl] at ho5
          have h := ho5
          try simp only at h
          refine athen_r ?_
          refine ablock_r ?_
          refine athen_r ?_
          obtain rfl := Option.some.inj h
          exact zR [] [] []
         ·refine zS 5 [(1, .bp 1 0), (3, .int .i64 st1), (4, .bp 4 0), (16, .sl (.pair (.int .i64) (.int .i64)) l.2), (17, .int .i64 (l.2.length : Int)), (18, .int .i64 st1), (38, .bool false), (43, .bool (decide (l.1 ≤ (l.2.getD st1.toNat (0, 0)).2)))] [(1, .box 24 [.int .i64 l.1, .sl (.pair (.int .i64) (.int .i64)) l.2]), (4, .box 50 [.int .i64 (l.2.getD st1.toNat (0, 0)).1, .int .i64 (l.2.getD st1.toNat (0, 0)).2])] ?_
          refine zS 2 [(1, .bp 1 0), (3, .int .i64 st1), (4, .bp 4 0), (16, .sl (.pair (.int .i64) (.int .i64)) l.2), (17, .int .i64 (l.2.length : Int)), (18, .int .i64 st1), (45, .bool (decide (l.1 ≤ (l.2.getD st1.toNat (0, 0)).2)))] [(1, .box 24 [.int .i64 l.1, .sl (.pair (.int .i64) (.int .i64)) l.2]), (4, .box 50 [.int .i64 (l.2.getD st1.toNat (0, 0)).1, .int .i64 (l.2.getD st1.toNat (0, 0)).2])] ?_
          rcases zI h with ⟨hb19, h⟩ | ⟨hb19, h⟩
          ·refine zS 4 [(1, .bp 1 0), (3, .int .i64 st1), (4, .bp 4 0), (16, .sl (.pair (.int .i64) (.int .i64)) l.2), (17, .int .i64 (l.2.length : Int)), (18, .int .i64 st1), (45, .bool true), (47, .cv (undef)), (49, .cv (undef))] [(1, .box 24 [.int .i64 l.1, .sl (.pair (.int .i64) (.int .i64)) l.2]), (4, .box 50 [.int .i64 (l.2.getD st1.toNat (0, 0)).1, .int .i64 (l.2.getD st1.toNat (0, 0)).2])] ?_
           refine zB [(1, .bp 1 0), (3, .int .i64 st1), (4, .bp 4 0), (16, .sl (.pair (.int .i64) (.int .i64)) l.2), (17, .int .i64 (l.2.length : Int)), (18, .int .i64 st1), (51, .bool true)] [(1, .box 24 [.int .i64 l.1, .sl (.pair (.int .i64) (.int .i64)) l.2]), (4, .box 50 [.int .i64 (l.2.getD st1.toNat (0, 0)).1, .int .i64 (l.2.getD st1.toNat (0, 0)).2])] ?_
           refine AW.cond (b := true) rfl (fun _ => ?_) (fun hb20 => by cases hb20)
           refine zo ?_
           refine zB [(2, .bool false)] [] ?_
           refine zr ?_
           refine ablock_r ?_
           refine athen_r ?_
           obtain rfl := Option.some.inj h
           rw [← hd6 _ rfl] at ho5
           have h := ho5
           try simp only at h
           refine athen_r ?_
           refine ablock_r ?_
           refine athen_r ?_
           obtain rfl := Option.some.inj h
           exact zR [] [] []
          ·refine zS 5 [(1, .bp 1 0), (3, .int .i64 st1), (4, .bp 4 0), (16, .sl (.pair (.int .i64) (.int .i64)) l.2), (17, .int .i64 (l.2.length : Int)), (18, .int .i64 st1), (45, .bool false), (50, .bool (decide ((l.2.getD st1.toNat (0, 0)).2 ≤ (l.2.getD st1.toNat (0, 0)).1)))] [(1, .box 24 [.int .i64 l.1, .sl (.pair (.int .i64) (.int .i64)) l.2]), (4, .box 50 [.int .i64 (l.2.getD st1.toNat (0, 0)).1, .int .i64 (l.2.getD st1.toNat (0, 0)).2])] ?_
           refine zB [(1, .bp 1 0), (3, .int .i64 st1), (4, .bp 4 0), (16, .sl (.pair (.int .i64) (.int .i64)) l.2), (17, .int .i64 (l.2.length : Int)), (18, .int .i64 st1), (51, .bool (decide ((l.2.getD st1.toNat (0, 0)).2 ≤ (l.2.getD st1.toNat (0, 0)).1)))] [(1, .box 24 [.int .i64 l.1, .sl (.pair (.int .i64) (.int .i64)) l.2]), (4, .box 50 [.int .i64 (l.2.getD st1.toNat (0, 0)).1, .int .i64 (l.2.getD st1.toNat (0, 0)).2])] ?_
           refine zQ h (fun hb21 h => ?_) (fun hb21 h => ?_)
           ·refine zo ?_
            refine zB [(2, .bool false)] [] ?_
            refine zr ?_
            refine ablock_r ?_
            refine athen_r ?_
            obtain rfl := Option.some.inj h
            rw [← hd6 _ rfl] at ho5
            have h := ho5
            try simp only at h
            refine athen_r ?_
            refine ablock_r ?_
            refine athen_r ?_
            obtain rfl := Option.some.inj h
            exact zR [] [] []
           ·refine zk ?_
            refine zo ?_
            obtain ⟨c22, h⟩ := ck_some.1 h
            obtain ⟨c23, h⟩ := ck_some.1 h
            refine zS 5 [(1, .bp 1 0), (4, .bp 4 0), (16, .sl (.pair (.int .i64) (.int .i64)) l.2), (17, .int .i64 (l.2.length : Int)), (18, .int .i64 st1), (55, .sl (.pair (.int .i64) (.int .i64)) (l.2.take st1.toNat)), (56, .int .i64 ((l.2.take st1.toNat).length : Int))] [(1, .box 24 [.int .i64 l.1, .sl (.pair (.int .i64) (.int .i64)) l.2]), (4, .box 50 [.int .i64 (l.2.getD st1.toNat (0, 0)).1, .int .i64 (l.2.getD st1.toNat (0, 0)).2])] ?_
            refine zB [(1, .bp 1 0), (4, .bp 4 0), (16, .sl (.pair (.int .i64) (.int .i64)) l.2), (17, .int .i64 (l.2.length : Int)), (18, .int .i64 st1), (55, .sl (.pair (.int .i64) (.int .i64)) (l.2.take st1.toNat)), (56, .int .i64 ((l.2.take st1.toNat).length : Int)), (57, .int .i64 0)] [(1, .box 24 [.int .i64 l.1, .sl (.pair (.int .i64) (.int .i64)) l.2]), (4, .box 50 [.int .i64 (l.2.getD st1.toNat (0, 0)).1, .int .i64 (l.2.getD st1.toNat (0, 0)).2])] ?_
            refine AW.block ?_
            obtain ⟨rv28, hw24, ho25⟩ := Option.bind_eq_some_iff.1 h
            refine AW.loopO (linealref03_Valid_b2 l st1) (fun st2 => ⟨fr [(1, .bp 1 0), (4, .bp 4 0), (16, .sl (.pair (.int .i64) (.int .i64)) l.2), (17, .int .i64 (l.2.length : Int)), (18, .int .i64 st1), (55, .sl (.pair (.int .i64) (.int .i64)) (l.2.take st1.toNat)), (56, .int .i64 ((l.2.take st1.toNat).length : Int)), (57, .int .i64 st2)], hpGet [(1, .box 24 [.int .i64 l.1, .sl (.pair (.int .i64) (.int .i64)) l.2]), (4, .box 50 [.int .i64 (l.2.getD st1.toNat (0, 0)).1, .int .i64 (l.2.getD st1.toNat (0, 0)).2])], gt⟩) 0 hw24 (zL [] [] []) ?_
            as_aux_lemma =>
             intro st2 x27 h hd26
             unfold linealref03_Valid_b2 at h
             refine zo ?_
             refine zB [(1, .bp 1 0), (4, .bp 4 0), (16, .sl (.pair (.int .i64) (.int .i64)) l.2), (17, .int .i64 (l.2.length : Int)), (18, .int .i64 st1), (55, .sl (.pair (.int .i64) (.int .i64)) (l.2.take st1.toNat)), (56, .int .i64 ((l.2.take st1.toNat).length : Int)), (57, .int .i64 st2), (58, .bool (decide (st2 < ((l.2.take st1.toNat).length : Int))))] [(1, .box 24 [.int .i64 l.1, .sl (.pair (.int .i64) (.int .i64)) l.2]), (4, .box 50 [.int .i64 (l.2.getD st1.toNat (0, 0)).1, .int .i64 (l.2.getD st1.toNat (0, 0)).2])] ?_
             refine AW.seq ?_
             refine zQ h (fun hb29 h => ?_) (fun hb29 h => ?_)
             ·refine zk ?_
              refine AW.seq ?_
              refine AW.block ?_
              refine zo ?_
              obtain ⟨c30, h⟩ := ck_some.1 h
              obtain ⟨c31, h⟩ := ck_some.1 h
              refine zB [(1, .bp 1 0), (4, .bp 4 0), (6, .bp 6 0), (16, .sl (.pair (.int .i64) (.int .i64)) l.2), (17, .int .i64 (l.2.length : Int)), (18, .int .i64 st1), (55, .sl (.pair (.int .i64) (.int .i64)) (l.2.take st1.toNat)), (56, .int .i64 ((l.2.take st1.toNat).length : Int)), (57, .int .i64 st2)] [(1, .box 24 [.int .i64 l.1, .sl (.pair (.int .i64) (.int .i64)) l.2]), (4, .box 50 [.int .i64 (l.2.getD st1.toNat (0, 0)).1, .int .i64 (l.2.getD st1.toNat (0, 0)).2]), (6, .box 50 [.int .i64 ((l.2.take st1.toNat).getD st2.toNat (0, 0)).1, .int .i64 ((l.2.take st1.toNat).getD st2.toNat (0, 0)).2])] ?_
              refine zo ?_
              refine zS 2 [(1, .bp 1 0), (4, .bp 4 0), (16, .sl (.pair (.int .i64) (.int .i64)) l.2), (17, .int .i64 (l.2.length : Int)), (18, .int .i64 st1), (55, .sl (.pair (.int .i64) (.int .i64)) (l.2.take st1.toNat)), (56, .int .i64 ((l.2.take st1.toNat).length : Int)), (57, .int .i64 st2), (61, .agg [.int .i64 (l.2.getD st1.toNat (0, 0)).1, .int .i64 (l.2.getD st1.toNat (0, 0)).2]), (62, .agg [.int .i64 ((l.2.take st1.toNat).getD st2.toNat (0, 0)).1, .int .i64 ((l.2.take st1.toNat).getD st2.toNat (0, 0)).2])] [(1, .box 24 [.int .i64 l.1, .sl (.pair (.int .i64) (.int .i64)) l.2]), (4, .box 50 [.int .i64 (l.2.getD st1.toNat (0, 0)).1, .int .i64 (l.2.getD st1.toNat (0, 0)).2])] ?_
              obtain ⟨c32, h⟩ := ck_some.1 h
              obtain ⟨c33, h⟩ := ck_some.1 h
              obtain ⟨c34, h⟩ := ck_some.1 h
              obtain ⟨c35, h⟩ := ck_some.1 h
              refine AO.aggEq (neg := false) eqty_50 (by decide) rfl rfl (lx := [.int .i64 (l.2.getD st1.toNat (0, 0)).1, .int .i64 (l.2.getD st1.toNat (0, 0)).2]) (ly := [.int .i64 ((l.2.take st1.toNat).getD st2.toNat (0, 0)).1, .int .i64 ((l.2.take st1.toNat).getD st2.toNat (0, 0)).2]) (by first | rfl | (simp only [go_sem, hb1, hb3, hb9, hb13, hb15, hb17, hb19, hb21, hb29]) <;> (with_reducible and_intros) <;> first | assumption | rfl | omega | (unfold maxLen; omega)) (by first | rfl | (simp only [go_sem, hb1, hb3, hb9, hb13, hb15, hb17, hb19, hb21, hb29]) <;> (with_reducible and_intros) <;> first | assumption | rfl | omega | (unfold maxLen; omega)) (by first | rfl | (simp only [go_sem, hb1, hb3, hb9, hb13, hb15, hb17, hb19, hb21, hb29]) <;> (with_reducible and_intros) <;> first | assumption | rfl | omega | (unfold maxLen; omega)) (by first | rfl | (simp only [go_sem, hb1, hb3, hb9, hb13, hb15, hb17, hb19, hb21, hb29]) <;> (with_reducible and_intros) <;> first | assumption | rfl | omega | (unfold maxLen; omega)) (by first | assumption | omega | (simp only [go_sem, hb1, hb3, hb9, hb13, hb15, hb17, hb19, hb21, hb29]) <;> (with_reducible and_intros) <;> first | assumption | rfl | omega | (unfold maxLen; omega)) (by first | assumption | omega | (simp only [go_sem, hb1, hb3, hb9, hb13, hb15, hb17, hb19, hb21, hb29]) <;> (with_reducible and_intros) <;> first | assumption | rfl | omega | (unfold maxLen; omega)) ?_
              refine zT [(1, .bp 1 0), (4, .bp 4 0), (16, .sl (.pair (.int .i64) (.int .i64)) l.2), (17, .int .i64 (l.2.length : Int)), (18, .int .i64 st1), (55, .sl (.pair (.int .i64) (.int .i64)) (l.2.take st1.toNat)), (56, .int .i64 ((l.2.take st1.toNat).length : Int)), (57, .int .i64 st2), (63, .bool (decide ((l.2.getD st1.toNat (0, 0)) = ((l.2.take st1.toNat).getD st2.toNat (0, 0)))))] [(1, .box 24 [.int .i64 l.1, .sl (.pair (.int .i64) (.int .i64)) l.2]), (4, .box 50 [.int .i64 (l.2.getD st1.toNat (0, 0)).1, .int .i64 (l.2.getD st1.toNat (0, 0)).2])] gt ?_
              refine zB [(1, .bp 1 0), (4, .bp 4 0), (16, .sl (.pair (.int .i64) (.int .i64)) l.2), (17, .int .i64 (l.2.length : Int)), (18, .int .i64 st1), (55, .sl (.pair (.int .i64) (.int .i64)) (l.2.take st1.toNat)), (56, .int .i64 ((l.2.take st1.toNat).length : Int)), (57, .int .i64 st2), (63, .bool (decide ((l.2.getD st1.toNat (0, 0)) = ((l.2.take st1.toNat).getD st2.toNat (0, 0)))))] [(1, .box 24 [.int .i64 l.1, .sl (.pair (.int .i64) (.int .i64)) l.2]), (4, .box 50 [.int .i64 (l.2.getD st1.toNat (0, 0)).1, .int .i64 (l.2.getD st1.toNat (0, 0)).2])] ?_
              refine zQ h (fun hb36 h => ?_) (fun hb36 h => ?_)
              ·refine zo ?_
               refine zB [(2, .bool false)] [] ?_
               refine AW.ret ?_
               refine ablock_r ?_
               refine athen_r ?_
               obtain rfl := Option.some.inj h
               rw [← hd26 _ rfl] at ho25
               have h := ho25
               try simp only at h
               refine athen_r ?_
               refine ablock_r ?_
               refine ablock_r ?_
               refine athen_r ?_
               obtain rfl := Option.some.inj h
               rw [← hd6 _ rfl] at ho5
               have h := ho5
               try simp only at h
               refine athen_r ?_
               refine ablock_r ?_
               refine athen_r ?_
               obtain rfl := Option.some.inj h
               exact zR [] [] []
              ·refine zm ?_
               refine athen_n ?_
               refine AW.ops ?_
               obtain ⟨c37, h⟩ := ck_some.1 h
               refine zA [(1, .bp 1 0), (4, .bp 4 0), (16, .sl (.pair (.int .i64) (.int .i64)) l.2), (17, .int .i64 (l.2.length : Int)), (18, .int .i64 st1), (55, .sl (.pair (.int .i64) (.int .i64)) (l.2.take st1.toNat)), (56, .int .i64 ((l.2.take st1.toNat).length : Int)), (57, .int .i64 (st2 + 1))] [(1, .box 24 [.int .i64 l.1, .sl (.pair (.int .i64) (.int .i64)) l.2]), (4, .box 50 [.int .i64 (l.2.getD st1.toNat (0, 0)).1, .int .i64 (l.2.getD st1.toNat (0, 0)).2])] ?_
               obtain rfl := Option.some.inj h
               exact ⟨_, rfl, zL [] [] []⟩
             ·refine AW.exit ?_
              refine athen_e ?_
              obtain rfl := Option.some.inj h
              rw [← hd26 _ rfl] at ho25
              have h := ho25
              try simp only at h
              refine athen_e ?_
              refine ablock_s ?_
              refine ablock_n ?_
              refine athen_n ?_
              exact AW.weaken (zL [] [] []) (hk_linealref03_Valid_k2 () h)
     ·refine AW.exit ?_
      refine athen_e ?_
      obtain rfl := Option.some.inj h
      rw [← hd6 _ rfl] at ho5
      have h := ho5
      try simp only at h
      refine athen_e ?_
      refine ablock_s ?_
      refine athen_n ?_
      exact AW.weaken (zL [] [] []) (hk_linealref03_Valid_k1 () h)

theorem hc_linealref03_IsLetter (l : Int × (List (Int × Int))) (a : Int) {r : Bool} (h : linealref03_IsLetter l a = some r) : HC Try.prog 49 [] [.agg [.int .i64 l.1, .sl (.pair (.int .i64) (.int .i64)) l.2], .int .i64 a] [] (.bool r) := by
 unfold linealref03_IsLetter at h
 refine zH Try.func49 [.tmp 4] 13 ?_
 refine zo ?_
 refine zB [(1, .int .i64 a), (2, .bp 2 0)] [(2, .box 24 [.int .i64 l.1, .sl (.pair (.int .i64) (.int .i64)) l.2])] ?_
 refine zo ?_
 refine zS 3 [(1, .int .i64 a), (2, .bp 2 0), (7, .bool (decide (0 ≤ a)))] [(2, .box 24 [.int .i64 l.1, .sl (.pair (.int .i64) (.int .i64)) l.2])] ?_
 rcases zI h with ⟨hb1, h⟩ | ⟨hb1, h⟩
 ·refine zS 5 [(12, .bool (decide (a < l.1)))] [] ?_
  refine zB [(4, .bool (decide (a < l.1)))] [] ?_
  refine AW.ret ?_
  obtain rfl := Option.some.inj h
  exact zR [] [] []
 ·refine zS 4 [(7, .bool false), (11, .cv (undef))] [] ?_
  refine zB [(4, .bool false)] [] ?_
  refine AW.ret ?_
  obtain rfl := Option.some.inj h
  exact zR [] [] []

theorem hc_linealref03_IsWord (l : Int × (List (Int × Int))) (w : List Int) {r : Bool} (h : linealref03_IsWord l w = some r) : HC Try.prog 25 [] [.agg [.int .i64 l.1, .sl (.pair (.int .i64) (.int .i64)) l.2], .sl (.int .i64) w] [] (.bool r) := by
 unfold linealref03_IsWord at h
 refine zH Try.func25 [.tmp 4] 21 ?_
 refine zo ?_
 refine zB [(1, .sl (.int .i64) w), (2, .bp 2 0)] [(2, .box 24 [.int .i64 l.1, .sl (.pair (.int .i64) (.int .i64)) l.2])] ?_
 refine AW.have1 (fun _ : Unit => linealref03_IsWord_k1 w = some r) (fun _ => ⟨fr [(1, .sl (.int .i64) w)], hpGet [], gt⟩) (fun _ h => ?_) (fun hk_linealref03_IsWord_k1 => ?_)
 ·as_aux_lemma =>
   unfold linealref03_IsWord_k1 at h
   refine zo ?_
   refine zB [(4, .bool (decide ((w.length : Int) ≤ 10)))] [] ?_
   refine AW.ret ?_
   obtain rfl := Option.some.inj h
   exact zR [] [] []
 ·refine AW.seq ?_
  refine zo ?_
  refine zB [(1, .sl (.int .i64) w), (2, .bp 2 0), (7, .sl (.int .i64) w), (8, .int .i64 (w.length : Int)), (9, .int .i64 0)] [(2, .box 24 [.int .i64 l.1, .sl (.pair (.int .i64) (.int .i64)) l.2])] ?_
  refine AW.block ?_
  obtain ⟨rv5, hw1, ho2⟩ := Option.bind_eq_some_iff.1 h
  refine AW.loopO (linealref03_IsWord_b1 l w) (fun st1 => ⟨fr [(1, .sl (.int .i64) w), (2, .bp 2 0), (7, .sl (.int .i64) w), (8, .int .i64 (w.length : Int)), (9, .int .i64 st1)], hpGet [(2, .box 24 [.int .i64 l.1, .sl (.pair (.int .i64) (.int .i64)) l.2])], gt⟩) 0 hw1 (zL [] [] []) ?_
  as_aux_lemma =>
   intro st1 x4 h hd3
   unfold linealref03_IsWord_b1 at h
   refine zo ?_
   refine zB [(1, .sl (.int .i64) w), (2, .bp 2 0), (7, .sl (.int .i64) w), (8, .int .i64 (w.length : Int)), (9, .int .i64 st1), (10, .bool (decide (st1 < (w.length : Int))))] [(2, .box 24 [.int .i64 l.1, .sl (.pair (.int .i64) (.int .i64)) l.2])] ?_
   refine AW.seq ?_
   refine zQ h (fun hb6 h => ?_) (fun hb6 h => ?_)
   ·refine zk ?_
    refine AW.seq ?_
    refine AW.block ?_
    refine zo ?_
    obtain ⟨c7, h⟩ := ck_some.1 h
    obtain ⟨c8, h⟩ := ck_some.1 h
    refine zB [(1, .sl (.int .i64) w), (2, .bp 2 0), (6, .int .i64 (w.getD st1.toNat 0)), (7, .sl (.int .i64) w), (8, .int .i64 (w.length : Int)), (9, .int .i64 st1)] [(2, .box 24 [.int .i64 l.1, .sl (.pair (.int .i64) (.int .i64)) l.2])] ?_
    refine zo ?_
    refine zS 2 [(1, .sl (.int .i64) w), (2, .bp 2 0), (7, .sl (.int .i64) w), (8, .int .i64 (w.length : Int)), (9, .int .i64 st1), (13, .agg [.int .i64 l.1, .sl (.pair (.int .i64) (.int .i64)) l.2]), (14, .int .i64 (w.getD st1.toNat 0))] [(2, .box 24 [.int .i64 l.1, .sl (.pair (.int .i64) (.int .i64)) l.2])] ?_
    obtain ⟨v0, hv9, h⟩ := Option.bind_eq_some_iff.1 h
    refine zC [] [] (hc_linealref03_IsLetter l (w.getD st1.toNat 0) hv9) [(1, .sl (.int .i64) w), (2, .bp 2 0), (7, .sl (.int .i64) w), (8, .int .i64 (w.length : Int)), (9, .int .i64 st1), (15, .bool v0)] [(2, .box 24 [.int .i64 l.1, .sl (.pair (.int .i64) (.int .i64)) l.2])] ?_
    refine zB [(1, .sl (.int .i64) w), (2, .bp 2 0), (7, .sl (.int .i64) w), (8, .int .i64 (w.length : Int)), (9, .int .i64 st1), (16, .bool (!v0))] [(2, .box 24 [.int .i64 l.1, .sl (.pair (.int .i64) (.int .i64)) l.2])] ?_
    refine zQ h (fun hb10 h => ?_) (fun hb10 h => ?_)
    ·refine zo ?_
     refine zB [(4, .bool false)] [] ?_
     refine AW.ret ?_
     refine ablock_r ?_
     refine athen_r ?_
     obtain rfl := Option.some.inj h
     rw [← hd3 _ rfl] at ho2
     have h := ho2
     try simp only at h
     refine athen_r ?_
     refine ablock_r ?_
     refine athen_r ?_
     obtain rfl := Option.some.inj h
     exact zR [] [] []
    ·refine zm ?_
     refine athen_n ?_
     refine AW.ops ?_
     obtain ⟨c11, h⟩ := ck_some.1 h
     refine zA [(1, .sl (.int .i64) w), (2, .bp 2 0), (7, .sl (.int .i64) w), (8, .int .i64 (w.length : Int)), (9, .int .i64 (st1 + 1))] [(2, .box 24 [.int .i64 l.1, .sl (.pair (.int .i64) (.int .i64)) l.2])] ?_
     obtain rfl := Option.some.inj h
     exact ⟨_, rfl, zL [] [] []⟩
   ·refine AW.exit ?_
    refine athen_e ?_
    obtain rfl := Option.some.inj h
    rw [← hd3 _ rfl] at ho2
    have h := ho2
    try simp only at h
    refine athen_e ?_
    refine ablock_s ?_
    refine athen_n ?_
    exact AW.weaken (zL [] [] []) (hk_linealref03_IsWord_k1 () h)

theorem hc_cmp_isNaN (x0 : Int) {r : Unit} (h : cmp_isNaN x0 = some r) : HC Try.prog 87 [] [.int .i64 x0] [] (.bool false) := by
 unfold cmp_isNaN at h
 refine zH Try.func87 [.tmp 2] 6 ?_
 refine zo ?_
 refine zB [(0, .int .i64 x0)] [] ?_
 refine zo ?_
 refine zB [(2, .bool false)] [] ?_
 refine AW.ret ?_
 obtain rfl := Option.some.inj h
 exact zR [] [] []

theorem hc_cmp_Less (x0 : Int) (y : Int) {r : Unit} (h : cmp_Less x0 y = some r) : HC Try.prog 77 [] [.int .i64 x0, .int .i64 y] [] (.bool (decide (x0 < y))) := by
 unfold cmp_Less at h
 refine zH Try.func77 [.tmp 4] 17 ?_
 refine zo ?_
 refine zB [(0, .int .i64 x0), (1, .int .i64 y)] [] ?_
 refine zo ?_
 refine zS 1 [(0, .int .i64 x0), (1, .int .i64 y), (5, .int .i64 x0)] [] ?_
 obtain ⟨v0, hv1, h⟩ := Option.bind_eq_some_iff.1 h
 refine zC [] [] (hc_cmp_isNaN x0 hv1) [(0, .int .i64 x0), (1, .int .i64 y), (6, .bool false)] [] ?_
 refine zS 5 [(0, .int .i64 x0), (1, .int .i64 y), (11, .bool false)] [] ?_
 refine zS 5 [(16, .bool (decide (x0 < y)))] [] ?_
 refine zB [(4, .bool (decide (x0 < y)))] [] ?_
 refine AW.ret ?_
 obtain rfl := Option.some.inj h
 exact zR [] [] []

theorem hc_slices_insertionSortOrdered (a : Int) (b : Int) (data : List Int) {r : (List Int)} (h : slices_insertionSortOrdered a b data = some r) : HC Try.prog 71 [(1000, .arr 3 (.int .i64) data)] [.own 1000, .int .i64 a, .int .i64 b] [(1000, .arr 3 (.int .i64) r)] (.tup []) := by
 unfold slices_insertionSortOrdered at h
 refine zH Try.func71 [] 49 ?_
 refine zo ?_
 obtain ⟨c1, h⟩ := ck_some.1 h
 refine zB [(0, .own 1000), (1, .int .i64 a), (2, .int .i64 b), (6, .int .i64 (a + 1))] [(1000, .arr 3 (.int .i64) data)] ?_
 refine AW.block ?_
 obtain ⟨rv6, hw2, ho3⟩ := Option.bind_eq_some_iff.1 h
 refine AW.loopO (slices_insertionSortOrdered_b1 a b) (fun st1 => ⟨fr [(0, .own 1000), (1, .int .i64 a), (2, .int .i64 b), (6, .int .i64 st1.2)], hpGet [(1000, .arr 3 (.int .i64) st1.1)], gt⟩) (data, (a + 1)) hw2 (zL [] [] []) ?_
 as_aux_lemma =>
  intro st1 x5 h hd4
  unfold slices_insertionSortOrdered_b1 at h
  refine AW.seq ?_
  refine zo ?_
  refine zB [(0, .own 1000), (1, .int .i64 a), (2, .int .i64 b), (6, .int .i64 st1.2), (12, .bool (decide (st1.2 < b)))] [(1000, .arr 3 (.int .i64) st1.1)] ?_
  refine zQ h (fun hb7 h => ?_) (fun hb7 h => ?_)
  ·refine zk ?_
   refine AW.have1 (fun b1 : (List Int) => slices_insertionSortOrdered_k1 st1 b1 = some x5) (fun b1 => ⟨fr [(0, .own 1000), (1, .int .i64 a), (2, .int .i64 b), (6, .int .i64 st1.2)], hpGet [(1000, .arr 3 (.int .i64) b1)], gt⟩) (fun b1 h => ?_) (fun hk_slices_insertionSortOrdered_k1 => ?_)
   ·as_aux_lemma =>
     unfold slices_insertionSortOrdered_k1 at h
     refine AW.ops ?_
     obtain ⟨c8, h⟩ := ck_some.1 h
     refine zA [(0, .own 1000), (1, .int .i64 a), (2, .int .i64 b), (6, .int .i64 (st1.2 + 1))] [(1000, .arr 3 (.int .i64) b1)] ?_
     obtain rfl := Option.some.inj h
     exact ⟨_, rfl, zL [] [] []⟩
   ·refine AW.seq ?_
    refine AW.block ?_
    refine zo ?_
    refine zB [(0, .own 1000), (1, .int .i64 a), (2, .int .i64 b), (6, .int .i64 st1.2), (7, .int .i64 st1.2)] [(1000, .arr 3 (.int .i64) st1.1)] ?_
    refine AW.block ?_
    obtain ⟨rv13, hw9, ho10⟩ := Option.bind_eq_some_iff.1 h
    refine AW.loopO (slices_insertionSortOrdered_b2 a) (fun st2 => ⟨fr [(0, .own 1000), (1, .int .i64 a), (2, .int .i64 b), (6, .int .i64 st1.2), (7, .int .i64 st2.2)], hpGet [(1000, .arr 3 (.int .i64) st2.1)], gt⟩) st1 hw9 (zL [] [] []) ?_
    as_aux_lemma =>
     intro st2 x12 h hd11
     unfold slices_insertionSortOrdered_b2 at h
     refine AW.seq ?_
     refine AW.seq ?_
     refine AW.draw tab_ok mixed_ok [] [] (by decide) (lex_fast (by kernel_rfl)) ?_
     as_aux_lemma =>
      refine adops_cut 4 (fun K' hK14 => ?_)
      try dsimp only [List.drop_succ_cons, List.drop_zero, List.take_succ_cons, List.take_zero]
      simp only [go_sem, hb7]
      repeat with_reducible refine zN ?_
      refine hK14 _ ?_
      as_aux_lemma =>
       rcases zI h with ⟨hb15, h⟩ | ⟨hb15, h⟩
       ·simp only [hb15]
        as_aux_lemma =>
         obtain ⟨c17, h⟩ := ck_some.1 h
         obtain ⟨c18, h⟩ := ck_some.1 h
         refine adops_cut 6 (fun K' hK16 => ?_)
         try dsimp only [List.drop_succ_cons, List.drop_zero, List.take_succ_cons, List.take_zero]
         simp only [go_sem, hb7, hb15]
         repeat with_reducible refine zN ?_
         refine hK16 _ ?_
         as_aux_lemma =>
          obtain ⟨c20, h⟩ := ck_some.1 h
          obtain ⟨c21, h⟩ := ck_some.1 h
          obtain ⟨c22, h⟩ := ck_some.1 h
          refine adops_cut 3 (fun K' hK19 => ?_)
          try dsimp only [List.drop_succ_cons, List.drop_zero, List.take_succ_cons, List.take_zero]
          simp only [go_sem, hb7, hb15]
          repeat with_reducible refine zN ?_
          refine hK19 _ ?_
          as_aux_lemma =>
           obtain ⟨v0, hv23, h⟩ := Option.bind_eq_some_iff.1 h
           refine adops.call (by first | trivial | rfl) rfl rfl rfl (fun _ h => ⟨fun _ => h, fun hn => absurd rfl hn⟩) [] [] (hc_cmp_Less (st2.1.getD st2.2.toNat 0) (st2.1.getD (st2.2 - 1).toNat 0) hv23) rfl (by (simp only [go_sem, hb7, hb15]) <;> (with_reducible and_intros) <;> first | assumption | rfl | omega | (unfold maxLen; omega)) (by (simp only [go_sem, hb7, hb15]) <;> (with_reducible and_intros) <;> first | assumption | rfl | omega | (unfold maxLen; omega)) rfl ?_
           refine adops_cut 1 (fun K' hK24 => ?_)
           try dsimp only [List.drop_succ_cons, List.drop_zero, List.take_succ_cons, List.take_zero]
           simp only [go_sem, hb7, hb15]
           repeat with_reducible refine zN ?_
           refine hK24 _ ?_
           refine adops_nil ?_
           refine athen_n ?_
           refine zV [(0, .own 1000), (1, .int .i64 a), (2, .int .i64 b), (6, .int .i64 st1.2), (7, .int .i64 st2.2), (30, .bool (decide ((st2.1.getD st2.2.toNat 0) < (st2.1.getD (st2.2 - 1).toNat 0))))] [(1000, .arr 3 (.int .i64) st2.1)] gt ?_
           as_aux_lemma =>
            refine zQ h (fun hb25 h => ?_) (fun hb25 h => ?_)
            ·refine zk ?_
             refine AW.seq ?_
             refine AW.block ?_
             refine AW.draw tab_ok mixed_ok [(15, [1000]), (17, [1000])] [(2, [1000]), (3, []), (4, []), (100015, []), (100017, [])] (by decide) (lex_fast (by kernel_rfl)) ?_
             as_aux_lemma =>
              obtain ⟨c27, h⟩ := ck_some.1 h
              refine adops_cut 6 (fun K' hK26 => ?_)
              try dsimp only [List.drop_succ_cons, List.drop_zero, List.take_succ_cons, List.take_zero]
              simp only [go_sem, hb7, hb15, hb25]
              repeat with_reducible refine zN ?_
              refine hK26 _ ?_
              as_aux_lemma =>
               obtain ⟨c29, h⟩ := ck_some.1 h
               obtain ⟨c30, h⟩ := ck_some.1 h
               obtain ⟨c31, h⟩ := ck_some.1 h
               refine adops_cut 6 (fun K' hK28 => ?_)
               try dsimp only [List.drop_succ_cons, List.drop_zero, List.take_succ_cons, List.take_zero]
               simp only [go_sem, hb7, hb15, hb25]
               repeat with_reducible refine zN ?_
               refine hK28 _ ?_
               as_aux_lemma =>
                obtain ⟨c33, h⟩ := ck_some.1 h
                obtain ⟨c34, h⟩ := ck_some.1 h
                obtain ⟨c35, h⟩ := ck_some.1 h
                obtain ⟨c36, h⟩ := ck_some.1 h
                obtain ⟨c37, h⟩ := ck_some.1 h
                obtain ⟨c38, h⟩ := ck_some.1 h
                refine adops_cut 6 (fun K' hK32 => ?_)
                try dsimp only [List.drop_succ_cons, List.drop_zero, List.take_succ_cons, List.take_zero]
                simp only [go_sem, hb7, hb15, hb25]
                repeat with_reducible refine zN ?_
                refine hK32 _ ?_
                refine adops_nil ?_
                refine ablock_n ?_
                refine athen_n ?_
                refine zV [(0, .own 1000), (1, .int .i64 a), (2, .int .i64 b), (6, .int .i64 st1.2), (7, .int .i64 st2.2)] [(1000, .arr 3 (.int .i64) ((st2.1.set st2.2.toNat (st2.1.getD (st2.2 - 1).toNat 0)).set (st2.2 - 1).toNat (st2.1.getD st2.2.toNat 0)))] gt ?_
                as_aux_lemma =>
                 refine AW.ops ?_
                 obtain ⟨c39, h⟩ := ck_some.1 h
                 refine zA [(0, .own 1000), (1, .int .i64 a), (2, .int .i64 b), (6, .int .i64 st1.2), (7, .int .i64 (st2.2 - 1))] [(1000, .arr 3 (.int .i64) ((st2.1.set st2.2.toNat (st2.1.getD (st2.2 - 1).toNat 0)).set (st2.2 - 1).toNat (st2.1.getD st2.2.toNat 0)))] ?_
                 obtain rfl := Option.some.inj h
                 exact ⟨_, rfl, zL [] [] []⟩
            ·refine AW.exit ?_
             refine athen_e ?_
             obtain rfl := Option.some.inj h
             rw [← hd11 _ rfl] at ho10
             have h := ho10
             refine athen_e ?_
             refine ablock_s ?_
             refine ablock_n ?_
             refine athen_n ?_
             exact AW.weaken (zL [] [] []) (hk_slices_insertionSortOrdered_k1 _ h)
       ·simp only [hb15]
        as_aux_lemma =>
         refine adops_cut 4 (fun K' hK40 => ?_)
         try dsimp only [List.drop_succ_cons, List.drop_zero, List.take_succ_cons, List.take_zero]
         simp only [go_sem, hb7, hb15]
         repeat with_reducible refine zN ?_
         refine hK40 _ ?_
         as_aux_lemma =>
          refine adops_cut 4 (fun K' hK41 => ?_)
          try dsimp only [List.drop_succ_cons, List.drop_zero, List.take_succ_cons, List.take_zero]
          simp only [go_sem, hb7, hb15]
          repeat with_reducible refine zN ?_
          refine hK41 _ ?_
          as_aux_lemma =>
           refine adops_cut 3 (fun K' hK42 => ?_)
           try dsimp only [List.drop_succ_cons, List.drop_zero, List.take_succ_cons, List.take_zero]
           simp only [go_sem, hb7, hb15]
           repeat with_reducible refine zN ?_
           refine hK42 _ ?_
           refine adops_nil ?_
           refine athen_n ?_
           refine zV [(0, .own 1000), (1, .int .i64 a), (2, .int .i64 b), (6, .int .i64 st1.2), (7, .int .i64 st2.2), (30, .bool false)] [(1000, .arr 3 (.int .i64) st2.1)] gt ?_
           as_aux_lemma =>
            refine AW.cond (b := false) rfl (fun hb43 => by cases hb43) (fun _ => ?_)
            refine AW.exit ?_
            refine athen_e ?_
            obtain rfl := Option.some.inj h
            rw [← hd11 _ rfl] at ho10
            have h := ho10
            refine athen_e ?_
            refine ablock_s ?_
            refine ablock_n ?_
            refine athen_n ?_
            exact AW.weaken (zL [] [] []) (hk_slices_insertionSortOrdered_k1 _ h)
  ·refine AW.exit ?_
   refine athen_e ?_
   obtain rfl := Option.some.inj h
   rw [← hd4 _ rfl] at ho3
   have h := ho3
   refine athen_e ?_
   refine ablock_s ?_
   obtain rfl := Option.some.inj h
   exact zR [] [] []

theorem hc_slices_pdqsortOrdered (a : Int) (b : Int) (limit : Int) (data : List Int) {r : (List Int)} (h : slices_pdqsortOrdered a b limit data = some r) : HC Try.prog 69 [(1000, .arr 3 (.int .i64) data)] [.own 1000, .int .i64 a, .int .i64 b, .int .i64 limit] [(1000, .arr 3 (.int .i64) r)] (.tup []) := by
 unfold slices_pdqsortOrdered at h
 refine zH Try.func69 [] 134 ?_
 refine zo ?_
 refine zB [(0, .own 1000), (1, .int .i64 a), (2, .int .i64 b), (3, .int .i64 limit), (8, .bool true)] [(1000, .arr 3 (.int .i64) data)] ?_
 refine zo ?_
 refine zB [(0, .own 1000), (1, .int .i64 a), (2, .int .i64 b), (3, .int .i64 limit), (8, .bool true), (9, .bool true)] [(1000, .arr 3 (.int .i64) data)] ?_
 refine AW.block ?_
 obtain ⟨rv5, hw1, ho2⟩ := Option.bind_eq_some_iff.1 h
 refine AW.loopO (slices_pdqsortOrdered_b1 a b limit data) (fun st1 => ⟨fr [(0, .own 1000), (1, .int .i64 a), (2, .int .i64 b), (3, .int .i64 limit), (8, .bool true), (9, .bool true)], hpGet [(1000, .arr 3 (.int .i64) data)], gt⟩) () hw1 (zL [] [] []) ?_
 as_aux_lemma =>
  intro st1 x4 h hd3
  unfold slices_pdqsortOrdered_b1 at h
  refine AW.block ?_
  refine zo ?_
  obtain ⟨c6, h⟩ := ck_some.1 h
  refine zB [(0, .own 1000), (1, .int .i64 a), (2, .int .i64 b), (3, .int .i64 limit), (8, .bool true), (9, .bool true), (10, .int .i64 (b - a))] [(1000, .arr 3 (.int .i64) data)] ?_
  refine AW.seq ?_
  refine zo ?_
  refine zB [(0, .own 1000), (1, .int .i64 a), (2, .int .i64 b), (3, .int .i64 limit), (8, .bool true), (9, .bool true), (10, .int .i64 (b - a)), (23, .bool (decide ((b - a) ≤ 12)))] [(1000, .arr 3 (.int .i64) data)] ?_
  refine zQ h (fun hb7 h => ?_) (fun hb7 h => ?_)
  ·refine zo ?_
   refine zS 3 [(24, .own 1000), (25, .int .i64 a), (26, .int .i64 b)] [(1000, .arr 3 (.int .i64) data)] ?_
   obtain ⟨v0, hv8, h⟩ := Option.bind_eq_some_iff.1 h
   refine zC [] [(1000, 1000)] (hc_slices_insertionSortOrdered a b data hv8) [] [(1000, .arr 3 (.int .i64) v0)] ?_
   refine zB [] [(1000, .arr 3 (.int .i64) v0)] ?_
   refine zr ?_
   refine ablock_r ?_
   obtain rfl := Option.some.inj h
   rw [← hd3 _ rfl] at ho2
   have h := ho2
   refine athen_r ?_
   refine ablock_r ?_
   obtain rfl := Option.some.inj h
   exact zR [] [] []
  ·refine zk ?_
   refine AW.seq ?_
   refine zo ?_
   refine zB [(0, .own 1000), (1, .int .i64 a), (2, .int .i64 b), (3, .int .i64 limit), (8, .bool true), (9, .bool true), (10, .int .i64 (b - a)), (29, .bool (decide (limit = 0)))] [(1000, .arr 3 (.int .i64) data)] ?_
   refine zQ h (fun hb9 h => ?_) (fun hb9 h => ?_)
   ·refine zo ?_
    cases h
   ·refine zk ?_
    refine AW.seq ?_
    refine zo ?_
    refine zB [(0, .own 1000), (1, .int .i64 a), (2, .int .i64 b), (3, .int .i64 limit), (8, .bool true), (9, .bool true), (10, .int .i64 (b - a)), (35, .bool false)] [(1000, .arr 3 (.int .i64) data)] ?_
    refine AW.cond (b := false) rfl (fun hb10 => by cases hb10) (fun _ => ?_)
    refine zk ?_
    refine zo ?_
    cases h

end Go.Proofs.Ytabchabbdnhjpaa
