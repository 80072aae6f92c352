/-
  Made by wip/tool/dc.py out of the print of the program: contracts.
-/
import Derived.Test.YteclokkdgmacpaaGrp
import Derived.Test.YteclokkdgmacpaaSh7
import Derived.Test.YteclokkdgmacpaaGhc6
namespace Go.Proofs.Yteclokkdgmacpaa
open Go.RowKit

set_option linter.unusedSimpArgs false
set_option linter.unusedVariables false
set_option linter.constructorNameAsVariable false

set_option maxRecDepth 100000
set_option maxHeartbeats 2000000

theorem hc_linealref07_Valid (g : Int × (List (Int × Int × Int × Bool))) {r : Bool} (h : linealref07_Valid g = some r) : HC Try.prog 21 [] [.agg [.int .i64 g.1, .sl (.pair (.int .i64) (.pair (.int .i64) (.pair (.int .i64) .bool))) g.2]] [] (.bool r) := by
 unfold linealref07_Valid at h
 refine zH Try.func21 [.tmp 2] 61 ?_
 refine zo ?_
 refine zB [(1, .bp 1 0)] [(1, .box 24 [.int .i64 g.1, .sl (.pair (.int .i64) (.pair (.int .i64) (.pair (.int .i64) .bool))) g.2])] ?_
 refine AW.seq ?_
 refine zo ?_
 refine zS 4 [(1, .bp 1 0), (10, .bool (decide (g.1 < 1)))] [(1, .box 24 [.int .i64 g.1, .sl (.pair (.int .i64) (.pair (.int .i64) (.pair (.int .i64) .bool))) g.2])] ?_
 rcases zI h with ⟨hb1, h⟩ | ⟨hb1, h⟩
 ·refine zS 5 [(1, .bp 1 0), (15, .bool true)] [(1, .box 24 [.int .i64 g.1, .sl (.pair (.int .i64) (.pair (.int .i64) (.pair (.int .i64) .bool))) g.2])] ?_
  refine zS 4 [(1, .bp 1 0), (15, .bool true), (19, .cv (undef))] [(1, .box 24 [.int .i64 g.1, .sl (.pair (.int .i64) (.pair (.int .i64) (.pair (.int .i64) .bool))) g.2])] ?_
  refine zB [(1, .bp 1 0), (20, .bool true)] [(1, .box 24 [.int .i64 g.1, .sl (.pair (.int .i64) (.pair (.int .i64) (.pair (.int .i64) .bool))) g.2])] ?_
  refine AW.cond (b := true) rfl (fun _ => ?_) (fun hb2 => by cases hb2)
  refine zo ?_
  refine zB [(2, .bool false)] [] ?_
  refine zr ?_
  obtain rfl := Option.some.inj h
  exact zR [] [] []
 ·refine zS 5 [(1, .bp 1 0), (15, .bool (decide (8 < g.1)))] [(1, .box 24 [.int .i64 g.1, .sl (.pair (.int .i64) (.pair (.int .i64) (.pair (.int .i64) .bool))) g.2])] ?_
  rcases zI h with ⟨hb3, h⟩ | ⟨hb3, h⟩
  ·refine zS 4 [(1, .bp 1 0), (15, .bool true), (19, .cv (undef))] [(1, .box 24 [.int .i64 g.1, .sl (.pair (.int .i64) (.pair (.int .i64) (.pair (.int .i64) .bool))) g.2])] ?_
   refine zB [(1, .bp 1 0), (20, .bool true)] [(1, .box 24 [.int .i64 g.1, .sl (.pair (.int .i64) (.pair (.int .i64) (.pair (.int .i64) .bool))) g.2])] ?_
   refine AW.cond (b := true) rfl (fun _ => ?_) (fun hb4 => by cases hb4)
   refine zo ?_
   refine zB [(2, .bool false)] [] ?_
   refine zr ?_
   obtain rfl := Option.some.inj h
   exact zR [] [] []
  ·refine zB [(1, .bp 1 0), (20, .bool (decide (20 < (g.2.length : Int))))] [(1, .box 24 [.int .i64 g.1, .sl (.pair (.int .i64) (.pair (.int .i64) (.pair (.int .i64) .bool))) g.2])] ?_
   refine zQ h (fun hb5 h => ?_) (fun hb5 h => ?_)
   ·refine zo ?_
    refine zB [(2, .bool false)] [] ?_
    refine zr ?_
    obtain rfl := Option.some.inj h
    exact zR [] [] []
   ·refine zk ?_
    refine AW.have1 (fun _ : Unit => linealref07_Valid_k1 = some r) (fun _ => ⟨fr [], hpGet [], gt⟩) (fun _ h => ?_) (fun hk_linealref07_Valid_k1 => ?_)
    ·as_aux_lemma =>
      unfold linealref07_Valid_k1 at h
      refine zo ?_
      refine zB [(2, .bool true)] [] ?_
      refine AW.ret ?_
      obtain rfl := Option.some.inj h
      exact zR [] [] []
    ·refine AW.seq ?_
     refine zo ?_
     refine zB [(1, .bp 1 0), (22, .sl (.pair (.int .i64) (.pair (.int .i64) (.pair (.int .i64) .bool))) g.2), (23, .int .i64 (g.2.length : Int)), (24, .int .i64 0)] [(1, .box 24 [.int .i64 g.1, .sl (.pair (.int .i64) (.pair (.int .i64) (.pair (.int .i64) .bool))) g.2])] ?_
     refine AW.block ?_
     obtain ⟨rv10, hw6, ho7⟩ := Option.bind_eq_some_iff.1 h
     refine AW.loopO (linealref07_Valid_b1 g) (fun st1 => ⟨fr [(1, .bp 1 0), (22, .sl (.pair (.int .i64) (.pair (.int .i64) (.pair (.int .i64) .bool))) g.2), (23, .int .i64 (g.2.length : Int)), (24, .int .i64 st1)], hpGet [(1, .box 24 [.int .i64 g.1, .sl (.pair (.int .i64) (.pair (.int .i64) (.pair (.int .i64) .bool))) g.2])], gt⟩) 0 hw6 (zL [] [] []) ?_
     as_aux_lemma =>
      intro st1 x9 h hd8
      unfold linealref07_Valid_b1 at h
      refine zo ?_
      refine zB [(1, .bp 1 0), (22, .sl (.pair (.int .i64) (.pair (.int .i64) (.pair (.int .i64) .bool))) g.2), (23, .int .i64 (g.2.length : Int)), (24, .int .i64 st1), (25, .bool (decide (st1 < (g.2.length : Int))))] [(1, .box 24 [.int .i64 g.1, .sl (.pair (.int .i64) (.pair (.int .i64) (.pair (.int .i64) .bool))) g.2])] ?_
      refine AW.seq ?_
      refine zQ h (fun hb11 h => ?_) (fun hb11 h => ?_)
      ·refine zk ?_
       refine AW.have1 (fun _ : Unit => linealref07_Valid_k2 st1 = some x9) (fun _ => ⟨fr [(1, .bp 1 0), (22, .sl (.pair (.int .i64) (.pair (.int .i64) (.pair (.int .i64) .bool))) g.2), (23, .int .i64 (g.2.length : Int)), (24, .int .i64 st1)], hpGet [(1, .box 24 [.int .i64 g.1, .sl (.pair (.int .i64) (.pair (.int .i64) (.pair (.int .i64) .bool))) g.2])], gt⟩) (fun _ h => ?_) (fun hk_linealref07_Valid_k2 => ?_)
       ·as_aux_lemma =>
         unfold linealref07_Valid_k2 at h
         refine AW.ops ?_
         obtain ⟨c12, h⟩ := ck_some.1 h
         refine zA [(1, .bp 1 0), (22, .sl (.pair (.int .i64) (.pair (.int .i64) (.pair (.int .i64) .bool))) g.2), (23, .int .i64 (g.2.length : Int)), (24, .int .i64 (st1 + 1))] [(1, .box 24 [.int .i64 g.1, .sl (.pair (.int .i64) (.pair (.int .i64) (.pair (.int .i64) .bool))) g.2])] ?_
         obtain rfl := Option.some.inj h
         exact ⟨_, rfl, zL [] [] []⟩
       ·refine AW.seq ?_
        refine AW.block ?_
        refine zo ?_
        obtain ⟨c13, h⟩ := ck_some.1 h
        obtain ⟨c14, h⟩ := ck_some.1 h
        refine zS 5 [(1, .bp 1 0), (3, .int .i64 st1), (4, .bp 4 0), (22, .sl (.pair (.int .i64) (.pair (.int .i64) (.pair (.int .i64) .bool))) g.2), (23, .int .i64 (g.2.length : Int)), (24, .int .i64 st1), (28, .agg [.int .i64 (g.2.getD st1.toNat (0, 0, 0, false)).1, .int .i64 (g.2.getD st1.toNat (0, 0, 0, false)).2.1, .int .i64 (g.2.getD st1.toNat (0, 0, 0, false)).2.2.1, .bool (g.2.getD st1.toNat (0, 0, 0, false)).2.2.2])] [(1, .box 24 [.int .i64 g.1, .sl (.pair (.int .i64) (.pair (.int .i64) (.pair (.int .i64) .bool))) g.2]), (4, .box 61 [.int .i64 0, .int .i64 0, .int .i64 0, .bool false])] ?_
        refine zB [(1, .bp 1 0), (3, .int .i64 st1), (4, .bp 4 0), (22, .sl (.pair (.int .i64) (.pair (.int .i64) (.pair (.int .i64) .bool))) g.2), (23, .int .i64 (g.2.length : Int)), (24, .int .i64 st1)] [(1, .box 24 [.int .i64 g.1, .sl (.pair (.int .i64) (.pair (.int .i64) (.pair (.int .i64) .bool))) g.2]), (4, .box 61 [.int .i64 (g.2.getD st1.toNat (0, 0, 0, false)).1, .int .i64 (g.2.getD st1.toNat (0, 0, 0, false)).2.1, .int .i64 (g.2.getD st1.toNat (0, 0, 0, false)).2.2.1, .bool (g.2.getD st1.toNat (0, 0, 0, false)).2.2.2])] ?_
        refine AW.seq ?_
        refine zo ?_
        refine zS 3 [(1, .bp 1 0), (3, .int .i64 st1), (4, .bp 4 0), (22, .sl (.pair (.int .i64) (.pair (.int .i64) (.pair (.int .i64) .bool))) g.2), (23, .int .i64 (g.2.length : Int)), (24, .int .i64 st1), (29, .agg [.int .i64 g.1, .sl (.pair (.int .i64) (.pair (.int .i64) (.pair (.int .i64) .bool))) g.2]), (31, .int .i64 (g.2.getD st1.toNat (0, 0, 0, false)).1)] [(1, .box 24 [.int .i64 g.1, .sl (.pair (.int .i64) (.pair (.int .i64) (.pair (.int .i64) .bool))) g.2]), (4, .box 61 [.int .i64 (g.2.getD st1.toNat (0, 0, 0, false)).1, .int .i64 (g.2.getD st1.toNat (0, 0, 0, false)).2.1, .int .i64 (g.2.getD st1.toNat (0, 0, 0, false)).2.2.1, .bool (g.2.getD st1.toNat (0, 0, 0, false)).2.2.2])] ?_
        obtain ⟨v0, hv15, h⟩ := Option.bind_eq_some_iff.1 h
        refine zC [] [] (hc_linealref07_IsPlace g (g.2.getD st1.toNat (0, 0, 0, false)).1 hv15) [(1, .bp 1 0), (3, .int .i64 st1), (4, .bp 4 0), (22, .sl (.pair (.int .i64) (.pair (.int .i64) (.pair (.int .i64) .bool))) g.2), (23, .int .i64 (g.2.length : Int)), (24, .int .i64 st1), (32, .bool v0)] [(1, .box 24 [.int .i64 g.1, .sl (.pair (.int .i64) (.pair (.int .i64) (.pair (.int .i64) .bool))) g.2]), (4, .box 61 [.int .i64 (g.2.getD st1.toNat (0, 0, 0, false)).1, .int .i64 (g.2.getD st1.toNat (0, 0, 0, false)).2.1, .int .i64 (g.2.getD st1.toNat (0, 0, 0, false)).2.2.1, .bool (g.2.getD st1.toNat (0, 0, 0, false)).2.2.2])] ?_
        refine zS 2 [(1, .bp 1 0), (3, .int .i64 st1), (4, .bp 4 0), (22, .sl (.pair (.int .i64) (.pair (.int .i64) (.pair (.int .i64) .bool))) g.2), (23, .int .i64 (g.2.length : Int)), (24, .int .i64 st1), (34, .bool (!v0))] [(1, .box 24 [.int .i64 g.1, .sl (.pair (.int .i64) (.pair (.int .i64) (.pair (.int .i64) .bool))) g.2]), (4, .box 61 [.int .i64 (g.2.getD st1.toNat (0, 0, 0, false)).1, .int .i64 (g.2.getD st1.toNat (0, 0, 0, false)).2.1, .int .i64 (g.2.getD st1.toNat (0, 0, 0, false)).2.2.1, .bool (g.2.getD st1.toNat (0, 0, 0, false)).2.2.2])] ?_
        rcases zI h with ⟨hb16, h⟩ | ⟨hb16, h⟩
        ·refine zS 4 [(1, .bp 1 0), (3, .int .i64 st1), (4, .bp 4 0), (22, .sl (.pair (.int .i64) (.pair (.int .i64) (.pair (.int .i64) .bool))) g.2), (23, .int .i64 (g.2.length : Int)), (24, .int .i64 st1), (34, .bool true), (38, .cv (undef))] [(1, .box 24 [.int .i64 g.1, .sl (.pair (.int .i64) (.pair (.int .i64) (.pair (.int .i64) .bool))) g.2]), (4, .box 61 [.int .i64 (g.2.getD st1.toNat (0, 0, 0, false)).1, .int .i64 (g.2.getD st1.toNat (0, 0, 0, false)).2.1, .int .i64 (g.2.getD st1.toNat (0, 0, 0, false)).2.2.1, .bool (g.2.getD st1.toNat (0, 0, 0, false)).2.2.2])] ?_
         refine zS 5 [(1, .bp 1 0), (3, .int .i64 st1), (4, .bp 4 0), (22, .sl (.pair (.int .i64) (.pair (.int .i64) (.pair (.int .i64) .bool))) g.2), (23, .int .i64 (g.2.length : Int)), (24, .int .i64 st1), (41, .bool true), (43, .cv (undef))] [(1, .box 24 [.int .i64 g.1, .sl (.pair (.int .i64) (.pair (.int .i64) (.pair (.int .i64) .bool))) g.2]), (4, .box 61 [.int .i64 (g.2.getD st1.toNat (0, 0, 0, false)).1, .int .i64 (g.2.getD st1.toNat (0, 0, 0, false)).2.1, .int .i64 (g.2.getD st1.toNat (0, 0, 0, false)).2.2.1, .bool (g.2.getD st1.toNat (0, 0, 0, false)).2.2.2])] ?_
         refine zB [(1, .bp 1 0), (3, .int .i64 st1), (4, .bp 4 0), (22, .sl (.pair (.int .i64) (.pair (.int .i64) (.pair (.int .i64) .bool))) g.2), (23, .int .i64 (g.2.length : Int)), (24, .int .i64 st1), (46, .bool true)] [(1, .box 24 [.int .i64 g.1, .sl (.pair (.int .i64) (.pair (.int .i64) (.pair (.int .i64) .bool))) g.2]), (4, .box 61 [.int .i64 (g.2.getD st1.toNat (0, 0, 0, false)).1, .int .i64 (g.2.getD st1.toNat (0, 0, 0, false)).2.1, .int .i64 (g.2.getD st1.toNat (0, 0, 0, false)).2.2.1, .bool (g.2.getD st1.toNat (0, 0, 0, false)).2.2.2])] ?_
         refine AW.cond (b := true) rfl (fun _ => ?_) (fun hb17 => by cases hb17)
         refine zo ?_
         refine zB [(2, .bool false)] [] ?_
         refine zr ?_
         refine ablock_r ?_
         refine athen_r ?_
         obtain rfl := Option.some.inj h
         rw [← hd8 _ rfl] at ho7
         have h := ho7
         try simp only at h
         refine athen_r ?_
         refine ablock_r ?_
         refine athen_r ?_
         obtain rfl := Option.some.inj h
         exact zR [] [] []
        ·refine zS 3 [(1, .bp 1 0), (3, .int .i64 st1), (4, .bp 4 0), (22, .sl (.pair (.int .i64) (.pair (.int .i64) (.pair (.int .i64) .bool))) g.2), (23, .int .i64 (g.2.length : Int)), (24, .int .i64 st1), (34, .bool false), (35, .agg [.int .i64 g.1, .sl (.pair (.int .i64) (.pair (.int .i64) (.pair (.int .i64) .bool))) g.2]), (37, .int .i64 (g.2.getD st1.toNat (0, 0, 0, false)).2.2.1)] [(1, .box 24 [.int .i64 g.1, .sl (.pair (.int .i64) (.pair (.int .i64) (.pair (.int .i64) .bool))) g.2]), (4, .box 61 [.int .i64 (g.2.getD st1.toNat (0, 0, 0, false)).1, .int .i64 (g.2.getD st1.toNat (0, 0, 0, false)).2.1, .int .i64 (g.2.getD st1.toNat (0, 0, 0, false)).2.2.1, .bool (g.2.getD st1.toNat (0, 0, 0, false)).2.2.2])] ?_
         obtain ⟨v0_2, hv18, h⟩ := Option.bind_eq_some_iff.1 h
         refine zG [] [] (hc_linealref07_IsPlace g (g.2.getD st1.toNat (0, 0, 0, false)).2.2.1 hv18) [(1, .bp 1 0), (3, .int .i64 st1), (4, .bp 4 0), (22, .sl (.pair (.int .i64) (.pair (.int .i64) (.pair (.int .i64) .bool))) g.2), (23, .int .i64 (g.2.length : Int)), (24, .int .i64 st1), (34, .bool false), (38, .bool v0_2)] [(1, .box 24 [.int .i64 g.1, .sl (.pair (.int .i64) (.pair (.int .i64) (.pair (.int .i64) .bool))) g.2]), (4, .box 61 [.int .i64 (g.2.getD st1.toNat (0, 0, 0, false)).1, .int .i64 (g.2.getD st1.toNat (0, 0, 0, false)).2.1, .int .i64 (g.2.getD st1.toNat (0, 0, 0, false)).2.2.1, .bool (g.2.getD st1.toNat (0, 0, 0, false)).2.2.2])] ?_
         refine zS 3 [(1, .bp 1 0), (3, .int .i64 st1), (4, .bp 4 0), (22, .sl (.pair (.int .i64) (.pair (.int .i64) (.pair (.int .i64) .bool))) g.2), (23, .int .i64 (g.2.length : Int)), (24, .int .i64 st1), (41, .bool (!v0_2))] [(1, .box 24 [.int .i64 g.1, .sl (.pair (.int .i64) (.pair (.int .i64) (.pair (.int .i64) .bool))) g.2]), (4, .box 61 [.int .i64 (g.2.getD st1.toNat (0, 0, 0, false)).1, .int .i64 (g.2.getD st1.toNat (0, 0, 0, false)).2.1, .int .i64 (g.2.getD st1.toNat (0, 0, 0, false)).2.2.1, .bool (g.2.getD st1.toNat (0, 0, 0, false)).2.2.2])] ?_
         rcases zI h with ⟨hb19, h⟩ | ⟨hb19, h⟩
         ·refine zS 4 [(1, .bp 1 0), (3, .int .i64 st1), (4, .bp 4 0), (22, .sl (.pair (.int .i64) (.pair (.int .i64) (.pair (.int .i64) .bool))) g.2), (23, .int .i64 (g.2.length : Int)), (24, .int .i64 st1), (41, .bool true), (45, .cv (undef))] [(1, .box 24 [.int .i64 g.1, .sl (.pair (.int .i64) (.pair (.int .i64) (.pair (.int .i64) .bool))) g.2]), (4, .box 61 [.int .i64 (g.2.getD st1.toNat (0, 0, 0, false)).1, .int .i64 (g.2.getD st1.toNat (0, 0, 0, false)).2.1, .int .i64 (g.2.getD st1.toNat (0, 0, 0, false)).2.2.1, .bool (g.2.getD st1.toNat (0, 0, 0, false)).2.2.2])] ?_
          refine zB [(1, .bp 1 0), (3, .int .i64 st1), (4, .bp 4 0), (22, .sl (.pair (.int .i64) (.pair (.int .i64) (.pair (.int .i64) .bool))) g.2), (23, .int .i64 (g.2.length : Int)), (24, .int .i64 st1), (46, .bool true)] [(1, .box 24 [.int .i64 g.1, .sl (.pair (.int .i64) (.pair (.int .i64) (.pair (.int .i64) .bool))) g.2]), (4, .box 61 [.int .i64 (g.2.getD st1.toNat (0, 0, 0, false)).1, .int .i64 (g.2.getD st1.toNat (0, 0, 0, false)).2.1, .int .i64 (g.2.getD st1.toNat (0, 0, 0, false)).2.2.1, .bool (g.2.getD st1.toNat (0, 0, 0, false)).2.2.2])] ?_
          refine AW.cond (b := true) rfl (fun _ => ?_) (fun hb20 => by cases hb20)
          refine zo ?_
          refine zB [(2, .bool false)] [] ?_
          refine zr ?_
          refine ablock_r ?_
          refine athen_r ?_
          obtain rfl := Option.some.inj h
          rw [← hd8 _ rfl] at ho7
          have h := ho7
          try simp only at h
          refine athen_r ?_
          refine ablock_r ?_
          refine athen_r ?_
          obtain rfl := Option.some.inj h
          exact zR [] [] []
         ·refine zS 2 [(1, .bp 1 0), (3, .int .i64 st1), (4, .bp 4 0), (22, .sl (.pair (.int .i64) (.pair (.int .i64) (.pair (.int .i64) .bool))) g.2), (23, .int .i64 (g.2.length : Int)), (24, .int .i64 st1), (41, .bool false), (43, .int .i64 (g.2.getD st1.toNat (0, 0, 0, false)).2.1)] [(1, .box 24 [.int .i64 g.1, .sl (.pair (.int .i64) (.pair (.int .i64) (.pair (.int .i64) .bool))) g.2]), (4, .box 61 [.int .i64 (g.2.getD st1.toNat (0, 0, 0, false)).1, .int .i64 (g.2.getD st1.toNat (0, 0, 0, false)).2.1, .int .i64 (g.2.getD st1.toNat (0, 0, 0, false)).2.2.1, .bool (g.2.getD st1.toNat (0, 0, 0, false)).2.2.2])] ?_
          obtain ⟨v0_3, hv21, h⟩ := Option.bind_eq_some_iff.1 h
          refine zG [] [] (hc_linealref07_IsThread (g.2.getD st1.toNat (0, 0, 0, false)).2.1 hv21) [(1, .bp 1 0), (3, .int .i64 st1), (4, .bp 4 0), (22, .sl (.pair (.int .i64) (.pair (.int .i64) (.pair (.int .i64) .bool))) g.2), (23, .int .i64 (g.2.length : Int)), (24, .int .i64 st1), (41, .bool false), (44, .bool v0_3)] [(1, .box 24 [.int .i64 g.1, .sl (.pair (.int .i64) (.pair (.int .i64) (.pair (.int .i64) .bool))) g.2]), (4, .box 61 [.int .i64 (g.2.getD st1.toNat (0, 0, 0, false)).1, .int .i64 (g.2.getD st1.toNat (0, 0, 0, false)).2.1, .int .i64 (g.2.getD st1.toNat (0, 0, 0, false)).2.2.1, .bool (g.2.getD st1.toNat (0, 0, 0, false)).2.2.2])] ?_
          refine zB [(1, .bp 1 0), (3, .int .i64 st1), (4, .bp 4 0), (22, .sl (.pair (.int .i64) (.pair (.int .i64) (.pair (.int .i64) .bool))) g.2), (23, .int .i64 (g.2.length : Int)), (24, .int .i64 st1), (46, .bool (!v0_3))] [(1, .box 24 [.int .i64 g.1, .sl (.pair (.int .i64) (.pair (.int .i64) (.pair (.int .i64) .bool))) g.2]), (4, .box 61 [.int .i64 (g.2.getD st1.toNat (0, 0, 0, false)).1, .int .i64 (g.2.getD st1.toNat (0, 0, 0, false)).2.1, .int .i64 (g.2.getD st1.toNat (0, 0, 0, false)).2.2.1, .bool (g.2.getD st1.toNat (0, 0, 0, false)).2.2.2])] ?_
          refine zQ h (fun hb22 h => ?_) (fun hb22 h => ?_)
          ·refine zo ?_
           refine zB [(2, .bool false)] [] ?_
           refine zr ?_
           refine ablock_r ?_
           refine athen_r ?_
           obtain rfl := Option.some.inj h
           rw [← hd8 _ rfl] at ho7
           have h := ho7
           try simp only at h
           refine athen_r ?_
           refine ablock_r ?_
           refine athen_r ?_
           obtain rfl := Option.some.inj h
           exact zR [] [] []
          ·refine zk ?_
           refine zo ?_
           obtain ⟨c23, h⟩ := ck_some.1 h
           obtain ⟨c24, h⟩ := ck_some.1 h
           refine zS 5 [(1, .bp 1 0), (4, .bp 4 0), (22, .sl (.pair (.int .i64) (.pair (.int .i64) (.pair (.int .i64) .bool))) g.2), (23, .int .i64 (g.2.length : Int)), (24, .int .i64 st1), (50, .sl (.pair (.int .i64) (.pair (.int .i64) (.pair (.int .i64) .bool))) (g.2.take st1.toNat)), (51, .int .i64 ((g.2.take st1.toNat).length : Int))] [(1, .box 24 [.int .i64 g.1, .sl (.pair (.int .i64) (.pair (.int .i64) (.pair (.int .i64) .bool))) g.2]), (4, .box 61 [.int .i64 (g.2.getD st1.toNat (0, 0, 0, false)).1, .int .i64 (g.2.getD st1.toNat (0, 0, 0, false)).2.1, .int .i64 (g.2.getD st1.toNat (0, 0, 0, false)).2.2.1, .bool (g.2.getD st1.toNat (0, 0, 0, false)).2.2.2])] ?_
           refine zB [(1, .bp 1 0), (4, .bp 4 0), (22, .sl (.pair (.int .i64) (.pair (.int .i64) (.pair (.int .i64) .bool))) g.2), (23, .int .i64 (g.2.length : Int)), (24, .int .i64 st1), (50, .sl (.pair (.int .i64) (.pair (.int .i64) (.pair (.int .i64) .bool))) (g.2.take st1.toNat)), (51, .int .i64 ((g.2.take st1.toNat).length : Int)), (52, .int .i64 0)] [(1, .box 24 [.int .i64 g.1, .sl (.pair (.int .i64) (.pair (.int .i64) (.pair (.int .i64) .bool))) g.2]), (4, .box 61 [.int .i64 (g.2.getD st1.toNat (0, 0, 0, false)).1, .int .i64 (g.2.getD st1.toNat (0, 0, 0, false)).2.1, .int .i64 (g.2.getD st1.toNat (0, 0, 0, false)).2.2.1, .bool (g.2.getD st1.toNat (0, 0, 0, false)).2.2.2])] ?_
           refine AW.block ?_
           obtain ⟨rv29, hw25, ho26⟩ := Option.bind_eq_some_iff.1 h
           refine AW.loopO (linealref07_Valid_b2 g st1) (fun st2 => ⟨fr [(1, .bp 1 0), (4, .bp 4 0), (22, .sl (.pair (.int .i64) (.pair (.int .i64) (.pair (.int .i64) .bool))) g.2), (23, .int .i64 (g.2.length : Int)), (24, .int .i64 st1), (50, .sl (.pair (.int .i64) (.pair (.int .i64) (.pair (.int .i64) .bool))) (g.2.take st1.toNat)), (51, .int .i64 ((g.2.take st1.toNat).length : Int)), (52, .int .i64 st2)], hpGet [(1, .box 24 [.int .i64 g.1, .sl (.pair (.int .i64) (.pair (.int .i64) (.pair (.int .i64) .bool))) g.2]), (4, .box 61 [.int .i64 (g.2.getD st1.toNat (0, 0, 0, false)).1, .int .i64 (g.2.getD st1.toNat (0, 0, 0, false)).2.1, .int .i64 (g.2.getD st1.toNat (0, 0, 0, false)).2.2.1, .bool (g.2.getD st1.toNat (0, 0, 0, false)).2.2.2])], gt⟩) 0 hw25 (zL [] [] []) ?_
           as_aux_lemma =>
            intro st2 x28 h hd27
            unfold linealref07_Valid_b2 at h
            refine zo ?_
            refine zB [(1, .bp 1 0), (4, .bp 4 0), (22, .sl (.pair (.int .i64) (.pair (.int .i64) (.pair (.int .i64) .bool))) g.2), (23, .int .i64 (g.2.length : Int)), (24, .int .i64 st1), (50, .sl (.pair (.int .i64) (.pair (.int .i64) (.pair (.int .i64) .bool))) (g.2.take st1.toNat)), (51, .int .i64 ((g.2.take st1.toNat).length : Int)), (52, .int .i64 st2), (53, .bool (decide (st2 < ((g.2.take st1.toNat).length : Int))))] [(1, .box 24 [.int .i64 g.1, .sl (.pair (.int .i64) (.pair (.int .i64) (.pair (.int .i64) .bool))) g.2]), (4, .box 61 [.int .i64 (g.2.getD st1.toNat (0, 0, 0, false)).1, .int .i64 (g.2.getD st1.toNat (0, 0, 0, false)).2.1, .int .i64 (g.2.getD st1.toNat (0, 0, 0, false)).2.2.1, .bool (g.2.getD st1.toNat (0, 0, 0, false)).2.2.2])] ?_
            refine AW.seq ?_
            refine zQ h (fun hb30 h => ?_) (fun hb30 h => ?_)
            ·refine zk ?_
             refine AW.seq ?_
             refine AW.block ?_
             refine zo ?_
             obtain ⟨c31, h⟩ := ck_some.1 h
             obtain ⟨c32, h⟩ := ck_some.1 h
             refine zB [(1, .bp 1 0), (4, .bp 4 0), (6, .bp 6 0), (22, .sl (.pair (.int .i64) (.pair (.int .i64) (.pair (.int .i64) .bool))) g.2), (23, .int .i64 (g.2.length : Int)), (24, .int .i64 st1), (50, .sl (.pair (.int .i64) (.pair (.int .i64) (.pair (.int .i64) .bool))) (g.2.take st1.toNat)), (51, .int .i64 ((g.2.take st1.toNat).length : Int)), (52, .int .i64 st2)] [(1, .box 24 [.int .i64 g.1, .sl (.pair (.int .i64) (.pair (.int .i64) (.pair (.int .i64) .bool))) g.2]), (4, .box 61 [.int .i64 (g.2.getD st1.toNat (0, 0, 0, false)).1, .int .i64 (g.2.getD st1.toNat (0, 0, 0, false)).2.1, .int .i64 (g.2.getD st1.toNat (0, 0, 0, false)).2.2.1, .bool (g.2.getD st1.toNat (0, 0, 0, false)).2.2.2]), (6, .box 61 [.int .i64 ((g.2.take st1.toNat).getD st2.toNat (0, 0, 0, false)).1, .int .i64 ((g.2.take st1.toNat).getD st2.toNat (0, 0, 0, false)).2.1, .int .i64 ((g.2.take st1.toNat).getD st2.toNat (0, 0, 0, false)).2.2.1, .bool ((g.2.take st1.toNat).getD st2.toNat (0, 0, 0, false)).2.2.2])] ?_
             refine zo ?_
             refine zS 2 [(1, .bp 1 0), (4, .bp 4 0), (22, .sl (.pair (.int .i64) (.pair (.int .i64) (.pair (.int .i64) .bool))) g.2), (23, .int .i64 (g.2.length : Int)), (24, .int .i64 st1), (50, .sl (.pair (.int .i64) (.pair (.int .i64) (.pair (.int .i64) .bool))) (g.2.take st1.toNat)), (51, .int .i64 ((g.2.take st1.toNat).length : Int)), (52, .int .i64 st2), (56, .agg [.int .i64 (g.2.getD st1.toNat (0, 0, 0, false)).1, .int .i64 (g.2.getD st1.toNat (0, 0, 0, false)).2.1, .int .i64 (g.2.getD st1.toNat (0, 0, 0, false)).2.2.1, .bool (g.2.getD st1.toNat (0, 0, 0, false)).2.2.2]), (57, .agg [.int .i64 ((g.2.take st1.toNat).getD st2.toNat (0, 0, 0, false)).1, .int .i64 ((g.2.take st1.toNat).getD st2.toNat (0, 0, 0, false)).2.1, .int .i64 ((g.2.take st1.toNat).getD st2.toNat (0, 0, 0, false)).2.2.1, .bool ((g.2.take st1.toNat).getD st2.toNat (0, 0, 0, false)).2.2.2])] [(1, .box 24 [.int .i64 g.1, .sl (.pair (.int .i64) (.pair (.int .i64) (.pair (.int .i64) .bool))) g.2]), (4, .box 61 [.int .i64 (g.2.getD st1.toNat (0, 0, 0, false)).1, .int .i64 (g.2.getD st1.toNat (0, 0, 0, false)).2.1, .int .i64 (g.2.getD st1.toNat (0, 0, 0, false)).2.2.1, .bool (g.2.getD st1.toNat (0, 0, 0, false)).2.2.2])] ?_
             obtain ⟨c33, h⟩ := ck_some.1 h
             obtain ⟨c34, h⟩ := ck_some.1 h
             obtain ⟨c35, h⟩ := ck_some.1 h
             obtain ⟨c36, h⟩ := ck_some.1 h
             obtain ⟨c37, h⟩ := ck_some.1 h
             obtain ⟨c38, h⟩ := ck_some.1 h
             refine AO.aggEq (neg := false) eqty_61 (by decide) rfl rfl (lx := [.int .i64 (g.2.getD st1.toNat (0, 0, 0, false)).1, .int .i64 (g.2.getD st1.toNat (0, 0, 0, false)).2.1, .int .i64 (g.2.getD st1.toNat (0, 0, 0, false)).2.2.1, .bool (g.2.getD st1.toNat (0, 0, 0, false)).2.2.2]) (ly := [.int .i64 ((g.2.take st1.toNat).getD st2.toNat (0, 0, 0, false)).1, .int .i64 ((g.2.take st1.toNat).getD st2.toNat (0, 0, 0, false)).2.1, .int .i64 ((g.2.take st1.toNat).getD st2.toNat (0, 0, 0, false)).2.2.1, .bool ((g.2.take st1.toNat).getD st2.toNat (0, 0, 0, false)).2.2.2]) (by first | rfl | (simp only [go_sem, hb1, hb3, hb5, hb11, hb16, hb19, hb22, hb30]) <;> (with_reducible and_intros) <;> first | assumption | rfl | omega | (unfold maxLen; omega)) (by first | rfl | (simp only [go_sem, hb1, hb3, hb5, hb11, hb16, hb19, hb22, hb30]) <;> (with_reducible and_intros) <;> first | assumption | rfl | omega | (unfold maxLen; omega)) (by first | rfl | (simp only [go_sem, hb1, hb3, hb5, hb11, hb16, hb19, hb22, hb30]) <;> (with_reducible and_intros) <;> first | assumption | rfl | omega | (unfold maxLen; omega)) (by first | rfl | (simp only [go_sem, hb1, hb3, hb5, hb11, hb16, hb19, hb22, hb30]) <;> (with_reducible and_intros) <;> first | assumption | rfl | omega | (unfold maxLen; omega)) (by first | assumption | omega | (simp only [go_sem, hb1, hb3, hb5, hb11, hb16, hb19, hb22, hb30]) <;> (with_reducible and_intros) <;> first | assumption | rfl | omega | (unfold maxLen; omega)) (by first | assumption | omega | (simp only [go_sem, hb1, hb3, hb5, hb11, hb16, hb19, hb22, hb30]) <;> (with_reducible and_intros) <;> first | assumption | rfl | omega | (unfold maxLen; omega)) ?_
             refine zT [(1, .bp 1 0), (4, .bp 4 0), (22, .sl (.pair (.int .i64) (.pair (.int .i64) (.pair (.int .i64) .bool))) g.2), (23, .int .i64 (g.2.length : Int)), (24, .int .i64 st1), (50, .sl (.pair (.int .i64) (.pair (.int .i64) (.pair (.int .i64) .bool))) (g.2.take st1.toNat)), (51, .int .i64 ((g.2.take st1.toNat).length : Int)), (52, .int .i64 st2), (58, .bool (decide ((g.2.getD st1.toNat (0, 0, 0, false)) = ((g.2.take st1.toNat).getD st2.toNat (0, 0, 0, false)))))] [(1, .box 24 [.int .i64 g.1, .sl (.pair (.int .i64) (.pair (.int .i64) (.pair (.int .i64) .bool))) g.2]), (4, .box 61 [.int .i64 (g.2.getD st1.toNat (0, 0, 0, false)).1, .int .i64 (g.2.getD st1.toNat (0, 0, 0, false)).2.1, .int .i64 (g.2.getD st1.toNat (0, 0, 0, false)).2.2.1, .bool (g.2.getD st1.toNat (0, 0, 0, false)).2.2.2])] gt ?_
             refine zB [(1, .bp 1 0), (4, .bp 4 0), (22, .sl (.pair (.int .i64) (.pair (.int .i64) (.pair (.int .i64) .bool))) g.2), (23, .int .i64 (g.2.length : Int)), (24, .int .i64 st1), (50, .sl (.pair (.int .i64) (.pair (.int .i64) (.pair (.int .i64) .bool))) (g.2.take st1.toNat)), (51, .int .i64 ((g.2.take st1.toNat).length : Int)), (52, .int .i64 st2), (58, .bool (decide ((g.2.getD st1.toNat (0, 0, 0, false)) = ((g.2.take st1.toNat).getD st2.toNat (0, 0, 0, false)))))] [(1, .box 24 [.int .i64 g.1, .sl (.pair (.int .i64) (.pair (.int .i64) (.pair (.int .i64) .bool))) g.2]), (4, .box 61 [.int .i64 (g.2.getD st1.toNat (0, 0, 0, false)).1, .int .i64 (g.2.getD st1.toNat (0, 0, 0, false)).2.1, .int .i64 (g.2.getD st1.toNat (0, 0, 0, false)).2.2.1, .bool (g.2.getD st1.toNat (0, 0, 0, false)).2.2.2])] ?_
             refine zQ h (fun hb39 h => ?_) (fun hb39 h => ?_)
             ·refine zo ?_
              refine zB [(2, .bool false)] [] ?_
              refine AW.ret ?_
              refine ablock_r ?_
              refine athen_r ?_
              obtain rfl := Option.some.inj h
              rw [← hd27 _ rfl] at ho26
              have h := ho26
              try simp only at h
              refine athen_r ?_
              refine ablock_r ?_
              refine ablock_r ?_
              refine athen_r ?_
              obtain rfl := Option.some.inj h
              rw [← hd8 _ rfl] at ho7
              have h := ho7
              try simp only at h
              refine athen_r ?_
              refine ablock_r ?_
              refine athen_r ?_
              obtain rfl := Option.some.inj h
              exact zR [] [] []
             ·refine zm ?_
              refine athen_n ?_
              refine AW.ops ?_
              obtain ⟨c40, h⟩ := ck_some.1 h
              refine zA [(1, .bp 1 0), (4, .bp 4 0), (22, .sl (.pair (.int .i64) (.pair (.int .i64) (.pair (.int .i64) .bool))) g.2), (23, .int .i64 (g.2.length : Int)), (24, .int .i64 st1), (50, .sl (.pair (.int .i64) (.pair (.int .i64) (.pair (.int .i64) .bool))) (g.2.take st1.toNat)), (51, .int .i64 ((g.2.take st1.toNat).length : Int)), (52, .int .i64 (st2 + 1))] [(1, .box 24 [.int .i64 g.1, .sl (.pair (.int .i64) (.pair (.int .i64) (.pair (.int .i64) .bool))) g.2]), (4, .box 61 [.int .i64 (g.2.getD st1.toNat (0, 0, 0, false)).1, .int .i64 (g.2.getD st1.toNat (0, 0, 0, false)).2.1, .int .i64 (g.2.getD st1.toNat (0, 0, 0, false)).2.2.1, .bool (g.2.getD st1.toNat (0, 0, 0, false)).2.2.2])] ?_
              obtain rfl := Option.some.inj h
              exact ⟨_, rfl, zL [] [] []⟩
            ·refine AW.exit ?_
             refine athen_e ?_
             obtain rfl := Option.some.inj h
             rw [← hd27 _ rfl] at ho26
             have h := ho26
             try simp only at h
             refine athen_e ?_
             refine ablock_s ?_
             refine ablock_n ?_
             refine athen_n ?_
             exact AW.weaken (zL [] [] []) (hk_linealref07_Valid_k2 () h)
      ·refine AW.exit ?_
       refine athen_e ?_
       obtain rfl := Option.some.inj h
       rw [← hd8 _ rfl] at ho7
       have h := ho7
       try simp only at h
       refine athen_e ?_
       refine ablock_s ?_
       refine athen_n ?_
       exact AW.weaken (zL [] [] []) (hk_linealref07_Valid_k1 () h)

theorem hc_linealref07_Same (a : Int × (List (Int × Int × Int × Bool))) (b : Int × (List (Int × Int × Int × Bool))) {r : Bool} (h : linealref07_Same a b = some r) : HC Try.prog 46 [] [.agg [.int .i64 a.1, .sl (.pair (.int .i64) (.pair (.int .i64) (.pair (.int .i64) .bool))) a.2], .agg [.int .i64 b.1, .sl (.pair (.int .i64) (.pair (.int .i64) (.pair (.int .i64) .bool))) b.2]] [] (.bool r) := by
 unfold linealref07_Same at h
 refine zH Try.func46 [.tmp 4] 38 ?_
 refine zo ?_
 refine zB [(2, .bp 2 0), (3, .bp 3 0)] [(2, .box 24 [.int .i64 a.1, .sl (.pair (.int .i64) (.pair (.int .i64) (.pair (.int .i64) .bool))) a.2]), (3, .box 24 [.int .i64 b.1, .sl (.pair (.int .i64) (.pair (.int .i64) (.pair (.int .i64) .bool))) b.2])] ?_
 refine AW.seq ?_
 refine zo ?_
 refine zS 5 [(2, .bp 2 0), (3, .bp 3 0), (10, .bool (!(decide (a.1 = b.1))))] [(2, .box 24 [.int .i64 a.1, .sl (.pair (.int .i64) (.pair (.int .i64) (.pair (.int .i64) .bool))) a.2]), (3, .box 24 [.int .i64 b.1, .sl (.pair (.int .i64) (.pair (.int .i64) (.pair (.int .i64) .bool))) b.2])] ?_
 refine zS 1 [(2, .bp 2 0), (3, .bp 3 0), (11, .bool (!(decide (a.1 = b.1))))] [(2, .box 24 [.int .i64 a.1, .sl (.pair (.int .i64) (.pair (.int .i64) (.pair (.int .i64) .bool))) a.2]), (3, .box 24 [.int .i64 b.1, .sl (.pair (.int .i64) (.pair (.int .i64) (.pair (.int .i64) .bool))) b.2])] ?_
 rcases zI h with ⟨hb1, h⟩ | ⟨hb1, h⟩
 ·refine zS 4 [(2, .bp 2 0), (3, .bp 3 0), (11, .bool true), (14, .cv (undef)), (15, .cv (undef))] [(2, .box 24 [.int .i64 a.1, .sl (.pair (.int .i64) (.pair (.int .i64) (.pair (.int .i64) .bool))) a.2]), (3, .box 24 [.int .i64 b.1, .sl (.pair (.int .i64) (.pair (.int .i64) (.pair (.int .i64) .bool))) b.2])] ?_
  refine zB [(2, .bp 2 0), (3, .bp 3 0), (19, .bool true)] [(2, .box 24 [.int .i64 a.1, .sl (.pair (.int .i64) (.pair (.int .i64) (.pair (.int .i64) .bool))) a.2]), (3, .box 24 [.int .i64 b.1, .sl (.pair (.int .i64) (.pair (.int .i64) (.pair (.int .i64) .bool))) b.2])] ?_
  refine AW.cond (b := true) rfl (fun _ => ?_) (fun hb2 => by cases hb2)
  refine zo ?_
  refine zB [(4, .bool false)] [] ?_
  refine zr ?_
  obtain rfl := Option.some.inj h
  exact zR [] [] []
 ·refine zS 5 [(2, .bp 2 0), (3, .bp 3 0), (11, .bool false), (14, .int .i64 (a.2.length : Int)), (16, .sl (.pair (.int .i64) (.pair (.int .i64) (.pair (.int .i64) .bool))) b.2)] [(2, .box 24 [.int .i64 a.1, .sl (.pair (.int .i64) (.pair (.int .i64) (.pair (.int .i64) .bool))) a.2]), (3, .box 24 [.int .i64 b.1, .sl (.pair (.int .i64) (.pair (.int .i64) (.pair (.int .i64) .bool))) b.2])] ?_
  refine zB [(2, .bp 2 0), (3, .bp 3 0), (19, .bool (!(decide ((a.2.length : Int) = (b.2.length : Int)))))] [(2, .box 24 [.int .i64 a.1, .sl (.pair (.int .i64) (.pair (.int .i64) (.pair (.int .i64) .bool))) a.2]), (3, .box 24 [.int .i64 b.1, .sl (.pair (.int .i64) (.pair (.int .i64) (.pair (.int .i64) .bool))) b.2])] ?_
  refine zQ h (fun hb3 h => ?_) (fun hb3 h => ?_)
  ·refine zo ?_
   refine zB [(4, .bool false)] [] ?_
   refine zr ?_
   obtain rfl := Option.some.inj h
   exact zR [] [] []
  ·refine zk ?_
   refine AW.have1 (fun _ : Unit => linealref07_Same_k1 = some r) (fun _ => ⟨fr [], hpGet [], gt⟩) (fun _ h => ?_) (fun hk_linealref07_Same_k1 => ?_)
   ·as_aux_lemma =>
     unfold linealref07_Same_k1 at h
     refine zo ?_
     refine zB [(4, .bool true)] [] ?_
     refine AW.ret ?_
     obtain rfl := Option.some.inj h
     exact zR [] [] []
   ·refine AW.seq ?_
    refine zo ?_
    refine zB [(2, .bp 2 0), (3, .bp 3 0), (22, .int .i64 (a.2.length : Int)), (23, .int .i64 0)] [(2, .box 24 [.int .i64 a.1, .sl (.pair (.int .i64) (.pair (.int .i64) (.pair (.int .i64) .bool))) a.2]), (3, .box 24 [.int .i64 b.1, .sl (.pair (.int .i64) (.pair (.int .i64) (.pair (.int .i64) .bool))) b.2])] ?_
    refine AW.block ?_
    obtain ⟨rv8, hw4, ho5⟩ := Option.bind_eq_some_iff.1 h
    refine AW.loopO (linealref07_Same_b1 a b) (fun st1 => ⟨fr [(2, .bp 2 0), (3, .bp 3 0), (22, .int .i64 (a.2.length : Int)), (23, .int .i64 st1)], hpGet [(2, .box 24 [.int .i64 a.1, .sl (.pair (.int .i64) (.pair (.int .i64) (.pair (.int .i64) .bool))) a.2]), (3, .box 24 [.int .i64 b.1, .sl (.pair (.int .i64) (.pair (.int .i64) (.pair (.int .i64) .bool))) b.2])], gt⟩) 0 hw4 (zL [] [] []) ?_
    as_aux_lemma =>
     intro st1 x7 h hd6
     unfold linealref07_Same_b1 at h
     refine zo ?_
     refine zB [(2, .bp 2 0), (3, .bp 3 0), (22, .int .i64 (a.2.length : Int)), (23, .int .i64 st1), (24, .bool (decide (st1 < (a.2.length : Int))))] [(2, .box 24 [.int .i64 a.1, .sl (.pair (.int .i64) (.pair (.int .i64) (.pair (.int .i64) .bool))) a.2]), (3, .box 24 [.int .i64 b.1, .sl (.pair (.int .i64) (.pair (.int .i64) (.pair (.int .i64) .bool))) b.2])] ?_
     refine AW.seq ?_
     refine zQ h (fun hb9 h => ?_) (fun hb9 h => ?_)
     ·refine zk ?_
      refine AW.seq ?_
      refine AW.block ?_
      refine zo ?_
      refine zB [(2, .bp 2 0), (3, .bp 3 0), (5, .int .i64 st1), (22, .int .i64 (a.2.length : Int)), (23, .int .i64 st1)] [(2, .box 24 [.int .i64 a.1, .sl (.pair (.int .i64) (.pair (.int .i64) (.pair (.int .i64) .bool))) a.2]), (3, .box 24 [.int .i64 b.1, .sl (.pair (.int .i64) (.pair (.int .i64) (.pair (.int .i64) .bool))) b.2])] ?_
      refine AW.seq ?_
      refine AW.drawTail tab_ok mixed_ok 10 [] [] (by decide) (by kernel_rfl) (by kernel_rfl) (by decide) ?_
      dsimp only [List.take_succ_cons, List.take_zero]
      obtain ⟨c11, h⟩ := ck_some.1 h
      obtain ⟨c12, h⟩ := ck_some.1 h
      refine adops_cut 6 (fun K' hK10 => ?_)
      try dsimp only [List.drop_succ_cons, List.drop_zero, List.take_succ_cons, List.take_zero]
      simp only [go_sem, hb1, hb3, hb9]
      repeat with_reducible refine zN ?_
      refine hK10 _ ?_
      as_aux_lemma =>
       obtain ⟨c14, h⟩ := ck_some.1 h
       obtain ⟨c15, h⟩ := ck_some.1 h
       refine adops_cut 4 (fun K' hK13 => ?_)
       try dsimp only [List.drop_succ_cons, List.drop_zero, List.take_succ_cons, List.take_zero]
       simp only [go_sem, hb1, hb3, hb9]
       repeat with_reducible refine zN ?_
       refine hK13 _ ?_
       refine adops_nil ?_
       refine zT [(2, .bp 2 0), (3, .bp 3 0), (22, .int .i64 (a.2.length : Int)), (23, .int .i64 st1), (30, .agg [.int .i64 (a.2.getD st1.toNat (0, 0, 0, false)).1, .int .i64 (a.2.getD st1.toNat (0, 0, 0, false)).2.1, .int .i64 (a.2.getD st1.toNat (0, 0, 0, false)).2.2.1, .bool (a.2.getD st1.toNat (0, 0, 0, false)).2.2.2]), (35, .agg [.int .i64 (b.2.getD st1.toNat (0, 0, 0, false)).1, .int .i64 (b.2.getD st1.toNat (0, 0, 0, false)).2.1, .int .i64 (b.2.getD st1.toNat (0, 0, 0, false)).2.2.1, .bool (b.2.getD st1.toNat (0, 0, 0, false)).2.2.2])] [(2, .box 24 [.int .i64 a.1, .sl (.pair (.int .i64) (.pair (.int .i64) (.pair (.int .i64) .bool))) a.2]), (3, .box 24 [.int .i64 b.1, .sl (.pair (.int .i64) (.pair (.int .i64) (.pair (.int .i64) .bool))) b.2])] gt ?_
       obtain ⟨c16, h⟩ := ck_some.1 h
       obtain ⟨c17, h⟩ := ck_some.1 h
       obtain ⟨c18, h⟩ := ck_some.1 h
       obtain ⟨c19, h⟩ := ck_some.1 h
       obtain ⟨c20, h⟩ := ck_some.1 h
       obtain ⟨c21, h⟩ := ck_some.1 h
       refine AO.aggEq (neg := true) eqty_61 (by decide) rfl rfl (lx := [.int .i64 (a.2.getD st1.toNat (0, 0, 0, false)).1, .int .i64 (a.2.getD st1.toNat (0, 0, 0, false)).2.1, .int .i64 (a.2.getD st1.toNat (0, 0, 0, false)).2.2.1, .bool (a.2.getD st1.toNat (0, 0, 0, false)).2.2.2]) (ly := [.int .i64 (b.2.getD st1.toNat (0, 0, 0, false)).1, .int .i64 (b.2.getD st1.toNat (0, 0, 0, false)).2.1, .int .i64 (b.2.getD st1.toNat (0, 0, 0, false)).2.2.1, .bool (b.2.getD st1.toNat (0, 0, 0, false)).2.2.2]) (by first | rfl | (simp only [go_sem, hb1, hb3, hb9]) <;> (with_reducible and_intros) <;> first | assumption | rfl | omega | (unfold maxLen; omega)) (by first | rfl | (simp only [go_sem, hb1, hb3, hb9]) <;> (with_reducible and_intros) <;> first | assumption | rfl | omega | (unfold maxLen; omega)) (by first | rfl | (simp only [go_sem, hb1, hb3, hb9]) <;> (with_reducible and_intros) <;> first | assumption | rfl | omega | (unfold maxLen; omega)) (by first | rfl | (simp only [go_sem, hb1, hb3, hb9]) <;> (with_reducible and_intros) <;> first | assumption | rfl | omega | (unfold maxLen; omega)) (by first | assumption | omega | (simp only [go_sem, hb1, hb3, hb9]) <;> (with_reducible and_intros) <;> first | assumption | rfl | omega | (unfold maxLen; omega)) (by first | assumption | omega | (simp only [go_sem, hb1, hb3, hb9]) <;> (with_reducible and_intros) <;> first | assumption | rfl | omega | (unfold maxLen; omega)) ?_
       refine zT [(2, .bp 2 0), (3, .bp 3 0), (22, .int .i64 (a.2.length : Int)), (23, .int .i64 st1), (36, .bool (!(decide ((a.2.getD st1.toNat (0, 0, 0, false)) = (b.2.getD st1.toNat (0, 0, 0, false))))))] [(2, .box 24 [.int .i64 a.1, .sl (.pair (.int .i64) (.pair (.int .i64) (.pair (.int .i64) .bool))) a.2]), (3, .box 24 [.int .i64 b.1, .sl (.pair (.int .i64) (.pair (.int .i64) (.pair (.int .i64) .bool))) b.2])] gt ?_
       refine zB [(2, .bp 2 0), (3, .bp 3 0), (22, .int .i64 (a.2.length : Int)), (23, .int .i64 st1), (36, .bool (!(decide ((a.2.getD st1.toNat (0, 0, 0, false)) = (b.2.getD st1.toNat (0, 0, 0, false))))))] [(2, .box 24 [.int .i64 a.1, .sl (.pair (.int .i64) (.pair (.int .i64) (.pair (.int .i64) .bool))) a.2]), (3, .box 24 [.int .i64 b.1, .sl (.pair (.int .i64) (.pair (.int .i64) (.pair (.int .i64) .bool))) b.2])] ?_
       refine zQ h (fun hb22 h => ?_) (fun hb22 h => ?_)
       ·refine zo ?_
        refine zB [(4, .bool false)] [] ?_
        refine AW.ret ?_
        refine ablock_r ?_
        refine athen_r ?_
        obtain rfl := Option.some.inj h
        rw [← hd6 _ rfl] at ho5
        have h := ho5
        try simp only at h
        refine athen_r ?_
        refine ablock_r ?_
        refine athen_r ?_
        obtain rfl := Option.some.inj h
        exact zR [] [] []
       ·refine zm ?_
        refine athen_n ?_
        refine AW.ops ?_
        obtain ⟨c23, h⟩ := ck_some.1 h
        refine zA [(2, .bp 2 0), (3, .bp 3 0), (22, .int .i64 (a.2.length : Int)), (23, .int .i64 (st1 + 1))] [(2, .box 24 [.int .i64 a.1, .sl (.pair (.int .i64) (.pair (.int .i64) (.pair (.int .i64) .bool))) a.2]), (3, .box 24 [.int .i64 b.1, .sl (.pair (.int .i64) (.pair (.int .i64) (.pair (.int .i64) .bool))) b.2])] ?_
        obtain rfl := Option.some.inj h
        exact ⟨_, rfl, zL [] [] []⟩
     ·refine AW.exit ?_
      refine athen_e ?_
      obtain rfl := Option.some.inj h
      rw [← hd6 _ rfl] at ho5
      have h := ho5
      try simp only at h
      refine athen_e ?_
      refine ablock_s ?_
      refine athen_n ?_
      exact AW.weaken (zL [] [] []) (hk_linealref07_Same_k1 () h)

theorem hc_slices_Clone (s : List (Int × Int × Int × Bool)) {r : (List (Int × Int × Int × Bool))} (h : slices_Clone s = some r) : HC Try.prog 84 [] [.sl (.pair (.int .i64) (.pair (.int .i64) (.pair (.int .i64) .bool))) s] [(2000, .arr 61 (.pair (.int .i64) (.pair (.int .i64) (.pair (.int .i64) .bool))) r)] (.own 2000) := by
 unfold slices_Clone at h
 refine zH Try.func84 [.tmp 2] 8 ?_
 refine zo ?_
 refine zB [(0, .sl (.pair (.int .i64) (.pair (.int .i64) (.pair (.int .i64) .bool))) s)] [] ?_
 refine AW.seq ?_
 refine zo ?_
 refine zS 1 [(0, .sl (.pair (.int .i64) (.pair (.int .i64) (.pair (.int .i64) .bool))) s), (3, .sl (.pair (.int .i64) (.pair (.int .i64) (.pair (.int .i64) .bool))) s)] [] ?_
 refine AO.nilEq (neg := false) tab_ok (by decide) rfl rfl tab_22 rfl rfl rfl (fun hnil1 => ?_) ?_
 ·have h : (some []) = some r := by
   first | (simp only [hnil1] at h ⊢; simpa [ck] using h) | (simp [hnil1, ck] at h ⊢; first | done | exact h)
  refine zT [(0, .sl (.pair (.int .i64) (.pair (.int .i64) (.pair (.int .i64) .bool))) s), (4, .bool true)] [] gt ?_
  refine zB [(0, .sl (.pair (.int .i64) (.pair (.int .i64) (.pair (.int .i64) .bool))) s), (4, .bool true)] [] ?_
  refine AW.cond (b := true) rfl (fun _ => ?_) (fun hb2 => by cases hb2)
  refine zo ?_
  refine zB [(2, .cv (.slice none 0 0))] [] ?_
  refine zr ?_
  obtain rfl := Option.some.inj h
  exact zR [] [2000] []
 ·refine zT [(0, .sl (.pair (.int .i64) (.pair (.int .i64) (.pair (.int .i64) .bool))) s), (4, .bool false)] [] gt ?_
  refine zB [(0, .sl (.pair (.int .i64) (.pair (.int .i64) (.pair (.int .i64) .bool))) s), (4, .bool false)] [] ?_
  refine AW.cond (b := false) rfl (fun hb3 => by cases hb3) (fun _ => ?_)
  refine zk ?_
  refine zo ?_
  obtain ⟨c4, h⟩ := ck_some.1 h
  refine zB [(2, .own 7)] [(7, .arr 61 (.pair (.int .i64) (.pair (.int .i64) (.pair (.int .i64) .bool))) s)] ?_
  refine AW.ret ?_
  obtain rfl := Option.some.inj h
  exact zR [] [] [(2000, 7)]

end Go.Proofs.Yteclokkdgmacpaa
