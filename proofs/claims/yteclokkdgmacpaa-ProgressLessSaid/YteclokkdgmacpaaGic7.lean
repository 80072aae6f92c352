/-
  Made by wip/tool/dc.py out of the print of the program: contracts.
-/
import Derived.Test.YteclokkdgmacpaaGrp
import Derived.Test.YteclokkdgmacpaaSh7
import Derived.Test.YteclokkdgmacpaaGic6
namespace Go.Proofs.Yteclokkdgmacpaa
open Go.RowKit

set_option linter.unusedSimpArgs false
set_option linter.unusedVariables false
set_option linter.constructorNameAsVariable false

set_option maxRecDepth 100000
set_option maxHeartbeats 2000000

theorem hc_linealref07_Valid (g : Int × (List (Int × Int × Int × Bool))) {r : Bool} (h : linealref07_Valid g = some r) : HC Try.prog 21 [] [.agg [.int .i64 g.1, .sl (.pair (.int .i64) (.pair (.int .i64) (.pair (.int .i64) .bool))) g.2]] [] (.bool r) := by
 unfold linealref07_Valid at h
 refine zH Try.func21 [.tmp 2] 61 ?_
 refine zo ?_
 refine zB [(1, .bp 1 0)] [(1, .box 24 [.int .i64 g.1, .sl (.pair (.int .i64) (.pair (.int .i64) (.pair (.int .i64) .bool))) g.2])] ?_
 refine AW.seq ?_
 refine zo ?_
 refine zS 4 [(1, .bp 1 0), (10, .bool (decide (g.1 < 1)))] [(1, .box 24 [.int .i64 g.1, .sl (.pair (.int .i64) (.pair (.int .i64) (.pair (.int .i64) .bool))) g.2])] ?_
 rcases zI h with ⟨hb1, h⟩ | ⟨hb1, h⟩
 ·refine zS 5 [(1, .bp 1 0), (15, .bool true)] [(1, .box 24 [.int .i64 g.1, .sl (.pair (.int .i64) (.pair (.int .i64) (.pair (.int .i64) .bool))) g.2])] ?_
  refine zS 4 [(1, .bp 1 0), (15, .bool true), (19, .cv (undef))] [(1, .box 24 [.int .i64 g.1, .sl (.pair (.int .i64) (.pair (.int .i64) (.pair (.int .i64) .bool))) g.2])] ?_
  refine zB [(1, .bp 1 0), (20, .bool true)] [(1, .box 24 [.int .i64 g.1, .sl (.pair (.int .i64) (.pair (.int .i64) (.pair (.int .i64) .bool))) g.2])] ?_
  refine AW.cond (b := true) rfl (fun _ => ?_) (fun hb2 => by cases hb2)
  refine zo ?_
  refine zB [(2, .bool false)] [] ?_
  refine zr ?_
  obtain rfl := Option.some.inj h
  exact zR [] [] []
 ·refine zS 5 [(1, .bp 1 0), (15, .bool (decide (8 < g.1)))] [(1, .box 24 [.int .i64 g.1, .sl (.pair (.int .i64) (.pair (.int .i64) (.pair (.int .i64) .bool))) g.2])] ?_
  rcases zI h with ⟨hb3, h⟩ | ⟨hb3, h⟩
  ·refine zS 4 [(1, .bp 1 0), (15, .bool true), (19, .cv (undef))] [(1, .box 24 [.int .i64 g.1, .sl (.pair (.int .i64) (.pair (.int .i64) (.pair (.int .i64) .bool))) g.2])] ?_
   refine zB [(1, .bp 1 0), (20, .bool true)] [(1, .box 24 [.int .i64 g.1, .sl (.pair (.int .i64) (.pair (.int .i64) (.pair (.int .i64) .bool))) g.2])] ?_
   refine AW.cond (b := true) rfl (fun _ => ?_) (fun hb4 => by cases hb4)
   refine zo ?_
   refine zB [(2, .bool false)] [] ?_
   refine zr ?_
   obtain rfl := Option.some.inj h
   exact zR [] [] []
  ·refine zB [(1, .bp 1 0), (20, .bool (decide (20 < (g.2.length : Int))))] [(1, .box 24 [.int .i64 g.1, .sl (.pair (.int .i64) (.pair (.int .i64) (.pair (.int .i64) .bool))) g.2])] ?_
   refine zQ h (fun hb5 h => ?_) (fun hb5 h => ?_)
   ·refine zo ?_
    refine zB [(2, .bool false)] [] ?_
    refine zr ?_
    obtain rfl := Option.some.inj h
    exact zR [] [] []
   ·refine zk ?_
    refine AW.have1 (fun _ : Unit => linealref07_Valid_k1 = some r) (fun _ => ⟨fr [], hpGet [], gt⟩) (fun _ h => ?_) (fun hk_linealref07_Valid_k1 => ?_)
    ·as_aux_lemma =>
      unfold linealref07_Valid_k1 at h
      refine zo ?_
      refine zB [(2, .bool true)] [] ?_
      refine AW.ret ?_
      obtain rfl := Option.some.inj h
      exact zR [] [] []
    ·refine AW.seq ?_
     refine zo ?_
     refine zB [(1, .bp 1 0), (22, .sl (.pair (.int .i64) (.pair (.int .i64) (.pair (.int .i64) .bool))) g.2), (23, .int .i64 (g.2.length : Int)), (24, .int .i64 0)] [(1, .box 24 [.int .i64 g.1, .sl (.pair (.int .i64) (.pair (.int .i64) (.pair (.int .i64) .bool))) g.2])] ?_
     refine AW.block ?_
     obtain ⟨rv10, hw6, ho7⟩ := Option.bind_eq_some_iff.1 h
     refine AW.loopO (linealref07_Valid_b1 g) (fun st1 => ⟨fr [(1, .bp 1 0), (22, .sl (.pair (.int .i64) (.pair (.int .i64) (.pair (.int .i64) .bool))) g.2), (23, .int .i64 (g.2.length : Int)), (24, .int .i64 st1)], hpGet [(1, .box 24 [.int .i64 g.1, .sl (.pair (.int .i64) (.pair (.int .i64) (.pair (.int .i64) .bool))) g.2])], gt⟩) 0 hw6 (zL [] [] []) ?_
     as_aux_lemma =>
      intro st1 x9 h hd8
      unfold linealref07_Valid_b1 at h
      refine zo ?_
      refine zB [(1, .bp 1 0), (22, .sl (.pair (.int .i64) (.pair (.int .i64) (.pair (.int .i64) .bool))) g.2), (23, .int .i64 (g.2.length : Int)), (24, .int .i64 st1), (25, .bool (decide (st1 < (g.2.length : Int))))] [(1, .box 24 [.int .i64 g.1, .sl (.pair (.int .i64) (.pair (.int .i64) (.pair (.int .i64) .bool))) g.2])] ?_
      refine AW.seq ?_
      refine zQ h (fun hb11 h => ?_) (fun hb11 h => ?_)
      ·refine zk ?_
       refine AW.have1 (fun _ : Unit => linealref07_Valid_k2 st1 = some x9) (fun _ => ⟨fr [(1, .bp 1 0), (22, .sl (.pair (.int .i64) (.pair (.int .i64) (.pair (.int .i64) .bool))) g.2), (23, .int .i64 (g.2.length : Int)), (24, .int .i64 st1)], hpGet [(1, .box 24 [.int .i64 g.1, .sl (.pair (.int .i64) (.pair (.int .i64) (.pair (.int .i64) .bool))) g.2])], gt⟩) (fun _ h => ?_) (fun hk_linealref07_Valid_k2 => ?_)
       ·as_aux_lemma =>
         unfold linealref07_Valid_k2 at h
         refine AW.ops ?_
         obtain ⟨c12, h⟩ := ck_some.1 h
         refine zA [(1, .bp 1 0), (22, .sl (.pair (.int .i64) (.pair (.int .i64) (.pair (.int .i64) .bool))) g.2), (23, .int .i64 (g.2.length : Int)), (24, .int .i64 (st1 + 1))] [(1, .box 24 [.int .i64 g.1, .sl (.pair (.int .i64) (.pair (.int .i64) (.pair (.int .i64) .bool))) g.2])] ?_
         obtain rfl := Option.some.inj h
         exact ⟨_, rfl, zL [] [] []⟩
       ·refine AW.seq ?_
        refine AW.block ?_
        refine zo ?_
        obtain ⟨c13, h⟩ := ck_some.1 h
        obtain ⟨c14, h⟩ := ck_some.1 h
        refine zS 5 [(1, .bp 1 0), (3, .int .i64 st1), (4, .bp 4 0), (22, .sl (.pair (.int .i64) (.pair (.int .i64) (.pair (.int .i64) .bool))) g.2), (23, .int .i64 (g.2.length : Int)), (24, .int .i64 st1), (28, .agg [.int .i64 (g.2.getD st1.toNat (0, 0, 0, false)).1, .int .i64 (g.2.getD st1.toNat (0, 0, 0, false)).2.1, .int .i64 (g.2.getD st1.toNat (0, 0, 0, false)).2.2.1, .bool (g.2.getD st1.toNat (0, 0, 0, false)).2.2.2])] [(1, .box 24 [.int .i64 g.1, .sl (.pair (.int .i64) (.pair (.int .i64) (.pair (.int .i64) .bool))) g.2]), (4, .box 61 [.int .i64 0, .int .i64 0, .int .i64 0, .bool false])] ?_
        refine zB [(1, .bp 1 0), (3, .int .i64 st1), (4, .bp 4 0), (22, .sl (.pair (.int .i64) (.pair (.int .i64) (.pair (.int .i64) .bool))) g.2), (23, .int .i64 (g.2.length : Int)), (24, .int .i64 st1)] [(1, .box 24 [.int .i64 g.1, .sl (.pair (.int .i64) (.pair (.int .i64) (.pair (.int .i64) .bool))) g.2]), (4, .box 61 [.int .i64 (g.2.getD st1.toNat (0, 0, 0, false)).1, .int .i64 (g.2.getD st1.toNat (0, 0, 0, false)).2.1, .int .i64 (g.2.getD st1.toNat (0, 0, 0, false)).2.2.1, .bool (g.2.getD st1.toNat (0, 0, 0, false)).2.2.2])] ?_
        refine AW.seq ?_
        refine zo ?_
        refine zS 3 [(1, .bp 1 0), (3, .int .i64 st1), (4, .bp 4 0), (22, .sl (.pair (.int .i64) (.pair (.int .i64) (.pair (.int .i64) .bool))) g.2), (23, .int .i64 (g.2.length : Int)), (24, .int .i64 st1), (29, .agg [.int .i64 g.1, .sl (.pair (.int .i64) (.pair (.int .i64) (.pair (.int .i64) .bool))) g.2]), (31, .int .i64 (g.2.getD st1.toNat (0, 0, 0, false)).1)] [(1, .box 24 [.int .i64 g.1, .sl (.pair (.int .i64) (.pair (.int .i64) (.pair (.int .i64) .bool))) g.2]), (4, .box 61 [.int .i64 (g.2.getD st1.toNat (0, 0, 0, false)).1, .int .i64 (g.2.getD st1.toNat (0, 0, 0, false)).2.1, .int .i64 (g.2.getD st1.toNat (0, 0, 0, false)).2.2.1, .bool (g.2.getD st1.toNat (0, 0, 0, false)).2.2.2])] ?_
        obtain ⟨v0, hv15, h⟩ := Option.bind_eq_some_iff.1 h
        refine zC [] [] (hc_linealref07_IsPlace g (g.2.getD st1.toNat (0, 0, 0, false)).1 hv15) [(1, .bp 1 0), (3, .int .i64 st1), (4, .bp 4 0), (22, .sl (.pair (.int .i64) (.pair (.int .i64) (.pair (.int .i64) .bool))) g.2), (23, .int .i64 (g.2.length : Int)), (24, .int .i64 st1), (32, .bool v0)] [(1, .box 24 [.int .i64 g.1, .sl (.pair (.int .i64) (.pair (.int .i64) (.pair (.int .i64) .bool))) g.2]), (4, .box 61 [.int .i64 (g.2.getD st1.toNat (0, 0, 0, false)).1, .int .i64 (g.2.getD st1.toNat (0, 0, 0, false)).2.1, .int .i64 (g.2.getD st1.toNat (0, 0, 0, false)).2.2.1, .bool (g.2.getD st1.toNat (0, 0, 0, false)).2.2.2])] ?_
        refine zS 2 [(1, .bp 1 0), (3, .int .i64 st1), (4, .bp 4 0), (22, .sl (.pair (.int .i64) (.pair (.int .i64) (.pair (.int .i64) .bool))) g.2), (23, .int .i64 (g.2.length : Int)), (24, .int .i64 st1), (34, .bool (!v0))] [(1, .box 24 [.int .i64 g.1, .sl (.pair (.int .i64) (.pair (.int .i64) (.pair (.int .i64) .bool))) g.2]), (4, .box 61 [.int .i64 (g.2.getD st1.toNat (0, 0, 0, false)).1, .int .i64 (g.2.getD st1.toNat (0, 0, 0, false)).2.1, .int .i64 (g.2.getD st1.toNat (0, 0, 0, false)).2.2.1, .bool (g.2.getD st1.toNat (0, 0, 0, false)).2.2.2])] ?_
        rcases zI h with ⟨hb16, h⟩ | ⟨hb16, h⟩
        ·refine zS 4 [(1, .bp 1 0), (3, .int .i64 st1), (4, .bp 4 0), (22, .sl (.pair (.int .i64) (.pair (.int .i64) (.pair (.int .i64) .bool))) g.2), (23, .int .i64 (g.2.length : Int)), (24, .int .i64 st1), (34, .bool true), (38, .cv (undef))] [(1, .box 24 [.int .i64 g.1, .sl (.pair (.int .i64) (.pair (.int .i64) (.pair (.int .i64) .bool))) g.2]), (4, .box 61 [.int .i64 (g.2.getD st1.toNat (0, 0, 0, false)).1, .int .i64 (g.2.getD st1.toNat (0, 0, 0, false)).2.1, .int .i64 (g.2.getD st1.toNat (0, 0, 0, false)).2.2.1, .bool (g.2.getD st1.toNat (0, 0, 0, false)).2.2.2])] ?_
         refine zS 5 [(1, .bp 1 0), (3, .int .i64 st1), (4, .bp 4 0), (22, .sl (.pair (.int .i64) (.pair (.int .i64) (.pair (.int .i64) .bool))) g.2), (23, .int .i64 (g.2.length : Int)), (24, .int .i64 st1), (41, .bool true), (43, .cv (undef))] [(1, .box 24 [.int .i64 g.1, .sl (.pair (.int .i64) (.pair (.int .i64) (.pair (.int .i64) .bool))) g.2]), (4, .box 61 [.int .i64 (g.2.getD st1.toNat (0, 0, 0, false)).1, .int .i64 (g.2.getD st1.toNat (0, 0, 0, false)).2.1, .int .i64 (g.2.getD st1.toNat (0, 0, 0, false)).2.2.1, .bool (g.2.getD st1.toNat (0, 0, 0, false)).2.2.2])] ?_
         refine zB [(1, .bp 1 0), (3, .int .i64 st1), (4, .bp 4 0), (22, .sl (.pair (.int .i64) (.pair (.int .i64) (.pair (.int .i64) .bool))) g.2), (23, .int .i64 (g.2.length : Int)), (24, .int .i64 st1), (46, .bool true)] [(1, .box 24 [.int .i64 g.1, .sl (.pair (.int .i64) (.pair (.int .i64) (.pair (.int .i64) .bool))) g.2]), (4, .box 61 [.int .i64 (g.2.getD st1.toNat (0, 0, 0, false)).1, .int .i64 (g.2.getD st1.toNat (0, 0, 0, false)).2.1, .int .i64 (g.2.getD st1.toNat (0, 0, 0, false)).2.2.1, .bool (g.2.getD st1.toNat (0, 0, 0, false)).2.2.2])] ?_
         refine AW.cond (b := true) rfl (fun _ => ?_) (fun hb17 => by cases hb17)
         refine zo ?_
         refine zB [(2, .bool false)] [] ?_
         refine zr ?_
         refine ablock_r ?_
         refine athen_r ?_
         obtain rfl := Option.some.inj h
         rw [← hd8 _ rfl] at ho7
         have h := ho7
         try simp only at h
         refine athen_r ?_
         refine ablock_r ?_
         refine athen_r ?_
         obtain rfl := Option.some.inj h
         exact zR [] [] []
        ·refine zS 3 [(1, .bp 1 0), (3, .int .i64 st1), (4, .bp 4 0), (22, .sl (.pair (.int .i64) (.pair (.int .i64) (.pair (.int .i64) .bool))) g.2), (23, .int .i64 (g.2.length : Int)), (24, .int .i64 st1), (34, .bool false), (35, .agg [.int .i64 g.1, .sl (.pair (.int .i64) (.pair (.int .i64) (.pair (.int .i64) .bool))) g.2]), (37, .int .i64 (g.2.getD st1.toNat (0, 0, 0, false)).2.2.1)] [(1, .box 24 [.int .i64 g.1, .sl (.pair (.int .i64) (.pair (.int .i64) (.pair (.int .i64) .bool))) g.2]), (4, .box 61 [.int .i64 (g.2.getD st1.toNat (0, 0, 0, false)).1, .int .i64 (g.2.getD st1.toNat (0, 0, 0, false)).2.1, .int .i64 (g.2.getD st1.toNat (0, 0, 0, false)).2.2.1, .bool (g.2.getD st1.toNat (0, 0, 0, false)).2.2.2])] ?_
         obtain ⟨v0_2, hv18, h⟩ := Option.bind_eq_some_iff.1 h
         refine zG [] [] (hc_linealref07_IsPlace g (g.2.getD st1.toNat (0, 0, 0, false)).2.2.1 hv18) [(1, .bp 1 0), (3, .int .i64 st1), (4, .bp 4 0), (22, .sl (.pair (.int .i64) (.pair (.int .i64) (.pair (.int .i64) .bool))) g.2), (23, .int .i64 (g.2.length : Int)), (24, .int .i64 st1), (34, .bool false), (38, .bool v0_2)] [(1, .box 24 [.int .i64 g.1, .sl (.pair (.int .i64) (.pair (.int .i64) (.pair (.int .i64) .bool))) g.2]), (4, .box 61 [.int .i64 (g.2.getD st1.toNat (0, 0, 0, false)).1, .int .i64 (g.2.getD st1.toNat (0, 0, 0, false)).2.1, .int .i64 (g.2.getD st1.toNat (0, 0, 0, false)).2.2.1, .bool (g.2.getD st1.toNat (0, 0, 0, false)).2.2.2])] ?_
         refine zS 3 [(1, .bp 1 0), (3, .int .i64 st1), (4, .bp 4 0), (22, .sl (.pair (.int .i64) (.pair (.int .i64) (.pair (.int .i64) .bool))) g.2), (23, .int .i64 (g.2.length : Int)), (24, .int .i64 st1), (41, .bool (!v0_2))] [(1, .box 24 [.int .i64 g.1, .sl (.pair (.int .i64) (.pair (.int .i64) (.pair (.int .i64) .bool))) g.2]), (4, .box 61 [.int .i64 (g.2.getD st1.toNat (0, 0, 0, false)).1, .int .i64 (g.2.getD st1.toNat (0, 0, 0, false)).2.1, .int .i64 (g.2.getD st1.toNat (0, 0, 0, false)).2.2.1, .bool (g.2.getD st1.toNat (0, 0, 0, false)).2.2.2])] ?_
         rcases zI h with ⟨hb19, h⟩ | ⟨hb19, h⟩
         ·refine zS 4 [(1, .bp 1 0), (3, .int .i64 st1), (4, .bp 4 0), (22, .sl (.pair (.int .i64) (.pair (.int .i64) (.pair (.int .i64) .bool))) g.2), (23, .int .i64 (g.2.length : Int)), (24, .int .i64 st1), (41, .bool true), (45, .cv (undef))] [(1, .box 24 [.int .i64 g.1, .sl (.pair (.int .i64) (.pair (.int .i64) (.pair (.int .i64) .bool))) g.2]), (4, .box 61 [.int .i64 (g.2.getD st1.toNat (0, 0, 0, false)).1, .int .i64 (g.2.getD st1.toNat (0, 0, 0, false)).2.1, .int .i64 (g.2.getD st1.toNat (0, 0, 0, false)).2.2.1, .bool (g.2.getD st1.toNat (0, 0, 0, false)).2.2.2])] ?_
          refine zB [(1, .bp 1 0), (3, .int .i64 st1), (4, .bp 4 0), (22, .sl (.pair (.int .i64) (.pair (.int .i64) (.pair (.int .i64) .bool))) g.2), (23, .int .i64 (g.2.length : Int)), (24, .int .i64 st1), (46, .bool true)] [(1, .box 24 [.int .i64 g.1, .sl (.pair (.int .i64) (.pair (.int .i64) (.pair (.int .i64) .bool))) g.2]), (4, .box 61 [.int .i64 (g.2.getD st1.toNat (0, 0, 0, false)).1, .int .i64 (g.2.getD st1.toNat (0, 0, 0, false)).2.1, .int .i64 (g.2.getD st1.toNat (0, 0, 0, false)).2.2.1, .bool (g.2.getD st1.toNat (0, 0, 0, false)).2.2.2])] ?_
          refine AW.cond (b := true) rfl (fun _ => ?_) (fun hb20 => by cases hb20)
          refine zo ?_
          refine zB [(2, .bool false)] [] ?_
          refine zr ?_
          refine ablock_r ?_
          refine athen_r ?_
          obtain rfl := Option.some.inj h
          rw [← hd8 _ rfl] at ho7
          have h := ho7
          try simp only at h
          refine athen_r ?_
          refine ablock_r ?_
          refine athen_r ?_
          obtain rfl := Option.some.inj h
          exact zR [] [] []
         ·refine zS 2 [(1, .bp 1 0), (3, .int .i64 st1), (4, .bp 4 0), (22, .sl (.pair (.int .i64) (.pair (.int .i64) (.pair (.int .i64) .bool))) g.2), (23, .int .i64 (g.2.length : Int)), (24, .int .i64 st1), (41, .bool false), (43, .int .i64 (g.2.getD st1.toNat (0, 0, 0, false)).2.1)] [(1, .box 24 [.int .i64 g.1, .sl (.pair (.int .i64) (.pair (.int .i64) (.pair (.int .i64) .bool))) g.2]), (4, .box 61 [.int .i64 (g.2.getD st1.toNat (0, 0, 0, false)).1, .int .i64 (g.2.getD st1.toNat (0, 0, 0, false)).2.1, .int .i64 (g.2.getD st1.toNat (0, 0, 0, false)).2.2.1, .bool (g.2.getD st1.toNat (0, 0, 0, false)).2.2.2])] ?_
          obtain ⟨v0_3, hv21, h⟩ := Option.bind_eq_some_iff.1 h
          refine zG [] [] (hc_linealref07_IsThread (g.2.getD st1.toNat (0, 0, 0, false)).2.1 hv21) [(1, .bp 1 0), (3, .int .i64 st1), (4, .bp 4 0), (22, .sl (.pair (.int .i64) (.pair (.int .i64) (.pair (.int .i64) .bool))) g.2), (23, .int .i64 (g.2.length : Int)), (24, .int .i64 st1), (41, .bool false), (44, .bool v0_3)] [(1, .box 24 [.int .i64 g.1, .sl (.pair (.int .i64) (.pair (.int .i64) (.pair (.int .i64) .bool))) g.2]), (4, .box 61 [.int .i64 (g.2.getD st1.toNat (0, 0, 0, false)).1, .int .i64 (g.2.getD st1.toNat (0, 0, 0, false)).2.1, .int .i64 (g.2.getD st1.toNat (0, 0, 0, false)).2.2.1, .bool (g.2.getD st1.toNat (0, 0, 0, false)).2.2.2])] ?_
          refine zB [(1, .bp 1 0), (3, .int .i64 st1), (4, .bp 4 0), (22, .sl (.pair (.int .i64) (.pair (.int .i64) (.pair (.int .i64) .bool))) g.2), (23, .int .i64 (g.2.length : Int)), (24, .int .i64 st1), (46, .bool (!v0_3))] [(1, .box 24 [.int .i64 g.1, .sl (.pair (.int .i64) (.pair (.int .i64) (.pair (.int .i64) .bool))) g.2]), (4, .box 61 [.int .i64 (g.2.getD st1.toNat (0, 0, 0, false)).1, .int .i64 (g.2.getD st1.toNat (0, 0, 0, false)).2.1, .int .i64 (g.2.getD st1.toNat (0, 0, 0, false)).2.2.1, .bool (g.2.getD st1.toNat (0, 0, 0, false)).2.2.2])] ?_
          refine zQ h (fun hb22 h => ?_) (fun hb22 h => ?_)
          ·refine zo ?_
           refine zB [(2, .bool false)] [] ?_
           refine zr ?_
           refine ablock_r ?_
           refine athen_r ?_
           obtain rfl := Option.some.inj h
           rw [← hd8 _ rfl] at ho7
           have h := ho7
           try simp only at h
           refine athen_r ?_
           refine ablock_r ?_
           refine athen_r ?_
           obtain rfl := Option.some.inj h
           exact zR [] [] []
          ·refine zk ?_
           refine zo ?_
           obtain ⟨c23, h⟩ := ck_some.1 h
           obtain ⟨c24, h⟩ := ck_some.1 h
           refine zS 5 [(1, .bp 1 0), (4, .bp 4 0), (22, .sl (.pair (.int .i64) (.pair (.int .i64) (.pair (.int .i64) .bool))) g.2), (23, .int .i64 (g.2.length : Int)), (24, .int .i64 st1), (50, .sl (.pair (.int .i64) (.pair (.int .i64) (.pair (.int .i64) .bool))) (g.2.take st1.toNat)), (51, .int .i64 ((g.2.take st1.toNat).length : Int))] [(1, .box 24 [.int .i64 g.1, .sl (.pair (.int .i64) (.pair (.int .i64) (.pair (.int .i64) .bool))) g.2]), (4, .box 61 [.int .i64 (g.2.getD st1.toNat (0, 0, 0, false)).1, .int .i64 (g.2.getD st1.toNat (0, 0, 0, false)).2.1, .int .i64 (g.2.getD st1.toNat (0, 0, 0, false)).2.2.1, .bool (g.2.getD st1.toNat (0, 0, 0, false)).2.2.2])] ?_
           refine zB [(1, .bp 1 0), (4, .bp 4 0), (22, .sl (.pair (.int .i64) (.pair (.int .i64) (.pair (.int .i64) .bool))) g.2), (23, .int .i64 (g.2.length : Int)), (24, .int .i64 st1), (50, .sl (.pair (.int .i64) (.pair (.int .i64) (.pair (.int .i64) .bool))) (g.2.take st1.toNat)), (51, .int .i64 ((g.2.take st1.toNat).length : Int)), (52, .int .i64 0)] [(1, .box 24 [.int .i64 g.1, .sl (.pair (.int .i64) (.pair (.int .i64) (.pair (.int .i64) .bool))) g.2]), (4, .box 61 [.int .i64 (g.2.getD st1.toNat (0, 0, 0, false)).1, .int .i64 (g.2.getD st1.toNat (0, 0, 0, false)).2.1, .int .i64 (g.2.getD st1.toNat (0, 0, 0, false)).2.2.1, .bool (g.2.getD st1.toNat (0, 0, 0, false)).2.2.2])] ?_
           refine AW.block ?_
           obtain ⟨rv29, hw25, ho26⟩ := Option.bind_eq_some_iff.1 h
           refine AW.loopO (linealref07_Valid_b2 g st1) (fun st2 => ⟨fr [(1, .bp 1 0), (4, .bp 4 0), (22, .sl (.pair (.int .i64) (.pair (.int .i64) (.pair (.int .i64) .bool))) g.2), (23, .int .i64 (g.2.length : Int)), (24, .int .i64 st1), (50, .sl (.pair (.int .i64) (.pair (.int .i64) (.pair (.int .i64) .bool))) (g.2.take st1.toNat)), (51, .int .i64 ((g.2.take st1.toNat).length : Int)), (52, .int .i64 st2)], hpGet [(1, .box 24 [.int .i64 g.1, .sl (.pair (.int .i64) (.pair (.int .i64) (.pair (.int .i64) .bool))) g.2]), (4, .box 61 [.int .i64 (g.2.getD st1.toNat (0, 0, 0, false)).1, .int .i64 (g.2.getD st1.toNat (0, 0, 0, false)).2.1, .int .i64 (g.2.getD st1.toNat (0, 0, 0, false)).2.2.1, .bool (g.2.getD st1.toNat (0, 0, 0, false)).2.2.2])], gt⟩) 0 hw25 (zL [] [] []) ?_
           as_aux_lemma =>
            intro st2 x28 h hd27
            unfold linealref07_Valid_b2 at h
            refine zo ?_
            refine zB [(1, .bp 1 0), (4, .bp 4 0), (22, .sl (.pair (.int .i64) (.pair (.int .i64) (.pair (.int .i64) .bool))) g.2), (23, .int .i64 (g.2.length : Int)), (24, .int .i64 st1), (50, .sl (.pair (.int .i64) (.pair (.int .i64) (.pair (.int .i64) .bool))) (g.2.take st1.toNat)), (51, .int .i64 ((g.2.take st1.toNat).length : Int)), (52, .int .i64 st2), (53, .bool (decide (st2 < ((g.2.take st1.toNat).length : Int))))] [(1, .box 24 [.int .i64 g.1, .sl (.pair (.int .i64) (.pair (.int .i64) (.pair (.int .i64) .bool))) g.2]), (4, .box 61 [.int .i64 (g.2.getD st1.toNat (0, 0, 0, false)).1, .int .i64 (g.2.getD st1.toNat (0, 0, 0, false)).2.1, .int .i64 (g.2.getD st1.toNat (0, 0, 0, false)).2.2.1, .bool (g.2.getD st1.toNat (0, 0, 0, false)).2.2.2])] ?_
            refine AW.seq ?_
            refine zQ h (fun hb30 h => ?_) (fun hb30 h => ?_)
            ·refine zk ?_
             refine AW.seq ?_
             refine AW.block ?_
             refine zo ?_
             obtain ⟨c31, h⟩ := ck_some.1 h
             obtain ⟨c32, h⟩ := ck_some.1 h
             refine zB [(1, .bp 1 0), (4, .bp 4 0), (6, .bp 6 0), (22, .sl (.pair (.int .i64) (.pair (.int .i64) (.pair (.int .i64) .bool))) g.2), (23, .int .i64 (g.2.length : Int)), (24, .int .i64 st1), (50, .sl (.pair (.int .i64) (.pair (.int .i64) (.pair (.int .i64) .bool))) (g.2.take st1.toNat)), (51, .int .i64 ((g.2.take st1.toNat).length : Int)), (52, .int .i64 st2)] [(1, .box 24 [.int .i64 g.1, .sl (.pair (.int .i64) (.pair (.int .i64) (.pair (.int .i64) .bool))) g.2]), (4, .box 61 [.int .i64 (g.2.getD st1.toNat (0, 0, 0, false)).1, .int .i64 (g.2.getD st1.toNat (0, 0, 0, false)).2.1, .int .i64 (g.2.getD st1.toNat (0, 0, 0, false)).2.2.1, .bool (g.2.getD st1.toNat (0, 0, 0, false)).2.2.2]), (6, .box 61 [.int .i64 ((g.2.take st1.toNat).getD st2.toNat (0, 0, 0, false)).1, .int .i64 ((g.2.take st1.toNat).getD st2.toNat (0, 0, 0, false)).2.1, .int .i64 ((g.2.take st1.toNat).getD st2.toNat (0, 0, 0, false)).2.2.1, .bool ((g.2.take st1.toNat).getD st2.toNat (0, 0, 0, false)).2.2.2])] ?_
             refine zo ?_
             refine zS 2 [(1, .bp 1 0), (4, .bp 4 0), (22, .sl (.pair (.int .i64) (.pair (.int .i64) (.pair (.int .i64) .bool))) g.2), (23, .int .i64 (g.2.length : Int)), (24, .int .i64 st1), (50, .sl (.pair (.int .i64) (.pair (.int .i64) (.pair (.int .i64) .bool))) (g.2.take st1.toNat)), (51, .int .i64 ((g.2.take st1.toNat).length : Int)), (52, .int .i64 st2), (56, .agg [.int .i64 (g.2.getD st1.toNat (0, 0, 0, false)).1, .int .i64 (g.2.getD st1.toNat (0, 0, 0, false)).2.1, .int .i64 (g.2.getD st1.toNat (0, 0, 0, false)).2.2.1, .bool (g.2.getD st1.toNat (0, 0, 0, false)).2.2.2]), (57, .agg [.int .i64 ((g.2.take st1.toNat).getD st2.toNat (0, 0, 0, false)).1, .int .i64 ((g.2.take st1.toNat).getD st2.toNat (0, 0, 0, false)).2.1, .int .i64 ((g.2.take st1.toNat).getD st2.toNat (0, 0, 0, false)).2.2.1, .bool ((g.2.take st1.toNat).getD st2.toNat (0, 0, 0, false)).2.2.2])] [(1, .box 24 [.int .i64 g.1, .sl (.pair (.int .i64) (.pair (.int .i64) (.pair (.int .i64) .bool))) g.2]), (4, .box 61 [.int .i64 (g.2.getD st1.toNat (0, 0, 0, false)).1, .int .i64 (g.2.getD st1.toNat (0, 0, 0, false)).2.1, .int .i64 (g.2.getD st1.toNat (0, 0, 0, false)).2.2.1, .bool (g.2.getD st1.toNat (0, 0, 0, false)).2.2.2])] ?_
             obtain ⟨c33, h⟩ := ck_some.1 h
             obtain ⟨c34, h⟩ := ck_some.1 h
             obtain ⟨c35, h⟩ := ck_some.1 h
             obtain ⟨c36, h⟩ := ck_some.1 h
             obtain ⟨c37, h⟩ := ck_some.1 h
             obtain ⟨c38, h⟩ := ck_some.1 h
             refine AO.aggEq (neg := false) eqty_61 (by decide) rfl rfl (lx := [.int .i64 (g.2.getD st1.toNat (0, 0, 0, false)).1, .int .i64 (g.2.getD st1.toNat (0, 0, 0, false)).2.1, .int .i64 (g.2.getD st1.toNat (0, 0, 0, false)).2.2.1, .bool (g.2.getD st1.toNat (0, 0, 0, false)).2.2.2]) (ly := [.int .i64 ((g.2.take st1.toNat).getD st2.toNat (0, 0, 0, false)).1, .int .i64 ((g.2.take st1.toNat).getD st2.toNat (0, 0, 0, false)).2.1, .int .i64 ((g.2.take st1.toNat).getD st2.toNat (0, 0, 0, false)).2.2.1, .bool ((g.2.take st1.toNat).getD st2.toNat (0, 0, 0, false)).2.2.2]) (by first | rfl | (simp only [go_sem, hb1, hb3, hb5, hb11, hb16, hb19, hb22, hb30]) <;> (with_reducible and_intros) <;> first | assumption | rfl | omega | (unfold maxLen; omega)) (by first | rfl | (simp only [go_sem, hb1, hb3, hb5, hb11, hb16, hb19, hb22, hb30]) <;> (with_reducible and_intros) <;> first | assumption | rfl | omega | (unfold maxLen; omega)) (by first | rfl | (simp only [go_sem, hb1, hb3, hb5, hb11, hb16, hb19, hb22, hb30]) <;> (with_reducible and_intros) <;> first | assumption | rfl | omega | (unfold maxLen; omega)) (by first | rfl | (simp only [go_sem, hb1, hb3, hb5, hb11, hb16, hb19, hb22, hb30]) <;> (with_reducible and_intros) <;> first | assumption | rfl | omega | (unfold maxLen; omega)) (by first | assumption | omega | (simp only [go_sem, hb1, hb3, hb5, hb11, hb16, hb19, hb22, hb30]) <;> (with_reducible and_intros) <;> first | assumption | rfl | omega | (unfold maxLen; omega)) (by first | assumption | omega | (simp only [go_sem, hb1, hb3, hb5, hb11, hb16, hb19, hb22, hb30]) <;> (with_reducible and_intros) <;> first | assumption | rfl | omega | (unfold maxLen; omega)) ?_
             refine zT [(1, .bp 1 0), (4, .bp 4 0), (22, .sl (.pair (.int .i64) (.pair (.int .i64) (.pair (.int .i64) .bool))) g.2), (23, .int .i64 (g.2.length : Int)), (24, .int .i64 st1), (50, .sl (.pair (.int .i64) (.pair (.int .i64) (.pair (.int .i64) .bool))) (g.2.take st1.toNat)), (51, .int .i64 ((g.2.take st1.toNat).length : Int)), (52, .int .i64 st2), (58, .bool (decide ((g.2.getD st1.toNat (0, 0, 0, false)) = ((g.2.take st1.toNat).getD st2.toNat (0, 0, 0, false)))))] [(1, .box 24 [.int .i64 g.1, .sl (.pair (.int .i64) (.pair (.int .i64) (.pair (.int .i64) .bool))) g.2]), (4, .box 61 [.int .i64 (g.2.getD st1.toNat (0, 0, 0, false)).1, .int .i64 (g.2.getD st1.toNat (0, 0, 0, false)).2.1, .int .i64 (g.2.getD st1.toNat (0, 0, 0, false)).2.2.1, .bool (g.2.getD st1.toNat (0, 0, 0, false)).2.2.2])] gt ?_
             refine zB [(1, .bp 1 0), (4, .bp 4 0), (22, .sl (.pair (.int .i64) (.pair (.int .i64) (.pair (.int .i64) .bool))) g.2), (23, .int .i64 (g.2.length : Int)), (24, .int .i64 st1), (50, .sl (.pair (.int .i64) (.pair (.int .i64) (.pair (.int .i64) .bool))) (g.2.take st1.toNat)), (51, .int .i64 ((g.2.take st1.toNat).length : Int)), (52, .int .i64 st2), (58, .bool (decide ((g.2.getD st1.toNat (0, 0, 0, false)) = ((g.2.take st1.toNat).getD st2.toNat (0, 0, 0, false)))))] [(1, .box 24 [.int .i64 g.1, .sl (.pair (.int .i64) (.pair (.int .i64) (.pair (.int .i64) .bool))) g.2]), (4, .box 61 [.int .i64 (g.2.getD st1.toNat (0, 0, 0, false)).1, .int .i64 (g.2.getD st1.toNat (0, 0, 0, false)).2.1, .int .i64 (g.2.getD st1.toNat (0, 0, 0, false)).2.2.1, .bool (g.2.getD st1.toNat (0, 0, 0, false)).2.2.2])] ?_
             refine zQ h (fun hb39 h => ?_) (fun hb39 h => ?_)
             ·refine zo ?_
              refine zB [(2, .bool false)] [] ?_
              refine AW.ret ?_
              refine ablock_r ?_
              refine athen_r ?_
              obtain rfl := Option.some.inj h
              rw [← hd27 _ rfl] at ho26
              have h := ho26
              try simp only at h
              refine athen_r ?_
              refine ablock_r ?_
              refine ablock_r ?_
              refine athen_r ?_
              obtain rfl := Option.some.inj h
              rw [← hd8 _ rfl] at ho7
              have h := ho7
              try simp only at h
              refine athen_r ?_
              refine ablock_r ?_
              refine athen_r ?_
              obtain rfl := Option.some.inj h
              exact zR [] [] []
             ·refine zm ?_
              refine athen_n ?_
              refine AW.ops ?_
              obtain ⟨c40, h⟩ := ck_some.1 h
              refine zA [(1, .bp 1 0), (4, .bp 4 0), (22, .sl (.pair (.int .i64) (.pair (.int .i64) (.pair (.int .i64) .bool))) g.2), (23, .int .i64 (g.2.length : Int)), (24, .int .i64 st1), (50, .sl (.pair (.int .i64) (.pair (.int .i64) (.pair (.int .i64) .bool))) (g.2.take st1.toNat)), (51, .int .i64 ((g.2.take st1.toNat).length : Int)), (52, .int .i64 (st2 + 1))] [(1, .box 24 [.int .i64 g.1, .sl (.pair (.int .i64) (.pair (.int .i64) (.pair (.int .i64) .bool))) g.2]), (4, .box 61 [.int .i64 (g.2.getD st1.toNat (0, 0, 0, false)).1, .int .i64 (g.2.getD st1.toNat (0, 0, 0, false)).2.1, .int .i64 (g.2.getD st1.toNat (0, 0, 0, false)).2.2.1, .bool (g.2.getD st1.toNat (0, 0, 0, false)).2.2.2])] ?_
              obtain rfl := Option.some.inj h
              exact ⟨_, rfl, zL [] [] []⟩
            ·refine AW.exit ?_
             refine athen_e ?_
             obtain rfl := Option.some.inj h
             rw [← hd27 _ rfl] at ho26
             have h := ho26
             try simp only at h
             refine athen_e ?_
             refine ablock_s ?_
             refine ablock_n ?_
             refine athen_n ?_
             exact AW.weaken (zL [] [] []) (hk_linealref07_Valid_k2 () h)
      ·refine AW.exit ?_
       refine athen_e ?_
       obtain rfl := Option.some.inj h
       rw [← hd8 _ rfl] at ho7
       have h := ho7
       try simp only at h
       refine athen_e ?_
       refine ablock_s ?_
       refine athen_n ?_
       exact AW.weaken (zL [] [] []) (hk_linealref07_Valid_k1 () h)

theorem hc_slices_Grow_2 (n : Int) {r : Unit} (h : slices_Grow_2 n = some r) : HC Try.prog 107 [] [.cv (.slice none 0 0), .int .i64 n] [(2000, .arr 61 (.pair (.int .i64) (.pair (.int .i64) (.pair (.int .i64) .bool))) [])] (.own 2000) := by
 unfold slices_Grow_2 at h
 refine zH Try.func107 [.tmp 4] 27 ?_
 refine zo ?_
 refine zB [(0, .cv (.slice none 0 0)), (1, .int .i64 n)] [] ?_
 refine AW.seq ?_
 refine zo ?_
 refine zB [(0, .cv (.slice none 0 0)), (1, .int .i64 n), (6, .bool (decide (n < 0)))] [] ?_
 refine zQ h (fun hb1 h => ?_) (fun hb1 h => ?_)
 ·refine AW.ops ?_
  cases h
 ·refine zk ?_
  refine AW.seq ?_
  refine zo ?_
  refine zS 2 [(0, .cv (.slice none 0 0)), (8, .int .i64 n), (9, .cv (.slice none 0 0))] [] ?_
  refine AO.capNil tab_ok (by decide) rfl rfl rfl rfl rfl tab_22 rfl rfl ?_
  refine zT [(0, .cv (.slice none 0 0)), (8, .int .i64 n), (10, .int .i64 0)] [] gt ?_
  obtain ⟨c2, h⟩ := ck_some.1 h
  obtain ⟨c3, h⟩ := ck_some.1 h
  refine zB [(0, .cv (.slice none 0 0)), (1, .int .i64 (n - (0 - 0)))] [] ?_
  refine zo ?_
  refine zB [(0, .cv (.slice none 0 0)), (1, .int .i64 (n - (0 - 0))), (16, .bool (decide (0 < (n - (0 - 0)))))] [] ?_
  refine zQ h (fun hb4 h => ?_) (fun hb4 h => ?_)
  ·refine AW.ops ?_
   refine zS 2 [(0, .cv (.slice none 0 0)), (1, .int .i64 (n - (0 - 0))), (17, .cv (.slice none 0 0)), (18, .cv (.slice none 0 0))] [] ?_
   refine AO.capNil tab_ok (by decide) rfl rfl rfl rfl rfl tab_22 rfl rfl ?_
   refine zT [(0, .cv (.slice none 0 0)), (1, .int .i64 (n - (0 - 0))), (17, .cv (.slice none 0 0)), (19, .int .i64 0)] [] gt ?_
   refine AO.sliceNil tab_ok (by decide) rfl rfl tab_22 rfl tab_61 rfl rfl ?_
   refine zT [(0, .cv (.slice none 0 0)), (1, .int .i64 (n - (0 - 0))), (20, .cv (.slice none 0 0))] [] gt ?_
   refine zS 1 [(0, .cv (.slice none 0 0)), (20, .cv (.slice none 0 0)), (21, .int .i64 (n - (0 - 0)))] [] ?_
   obtain ⟨c5, h⟩ := ck_some.1 h
   obtain ⟨c6, h⟩ := ck_some.1 h
   obtain ⟨c7, h⟩ := ck_some.1 h
   refine AO.appendZeros tab_ok (by decide) (by decide) rfl rfl rfl rfl rfl tab_22 rfl tab_61 rfl tab_3 rfl rfl rfl (by first | assumption | omega | (simp only [go_sem, hb1, hb4]) <;> (with_reducible and_intros) <;> first | assumption | rfl | omega | (unfold maxLen; omega)) (by first | assumption | omega | (simp only [go_sem, hb1, hb4]) <;> (with_reducible and_intros) <;> first | assumption | rfl | omega | (unfold maxLen; omega)) (by first | assumption | omega | (simp only [go_sem, hb1, hb4]) <;> (with_reducible and_intros) <;> first | assumption | rfl | omega | (unfold maxLen; omega)) ?_
   refine zT [(0, .cv (.slice none 0 0)), (22, .own 22)] [(22, .arr 61 (.pair (.int .i64) (.pair (.int .i64) (.pair (.int .i64) .bool))) (List.replicate (n - (0 - 0)).toNat ((0, 0, 0, false) : Int × Int × Int × Bool)))] gt ?_
   refine zS 2 [(22, .own 22), (24, .int .i64 0)] [(22, .arr 61 (.pair (.int .i64) (.pair (.int .i64) (.pair (.int .i64) .bool))) (List.replicate (n - (0 - 0)).toNat ((0, 0, 0, false) : Int × Int × Int × Bool)))] ?_
   obtain ⟨c8, h⟩ := ck_some.1 h
   obtain ⟨c9, h⟩ := ck_some.1 h
   refine AO.sliceOwn tab_ok (by decide) (by decide) rfl rfl tab_22 rfl tab_61 rfl rfl rfl rfl (by first | assumption | omega | (simp only [go_sem, hb1, hb4]) <;> (with_reducible and_intros) <;> first | assumption | rfl | omega | (unfold maxLen; omega)) (by first | assumption | omega | (simp only [go_sem, hb1, hb4]) <;> (with_reducible and_intros) <;> first | assumption | rfl | omega | (unfold maxLen; omega)) ?_
   refine zT [(25, .own 25)] [(25, .arr 61 (.pair (.int .i64) (.pair (.int .i64) (.pair (.int .i64) .bool))) [])] gt ?_
   refine zB [(0, .own 25)] [(25, .arr 61 (.pair (.int .i64) (.pair (.int .i64) (.pair (.int .i64) .bool))) [])] ?_
   refine zo ?_
   refine zB [(4, .own 25)] [(25, .arr 61 (.pair (.int .i64) (.pair (.int .i64) (.pair (.int .i64) .bool))) [])] ?_
   refine AW.ret ?_
   obtain rfl := Option.some.inj h
   exact zR [] [] [(2000, 25)]
  ·refine zk ?_
   refine zo ?_
   refine zB [(4, .cv (.slice none 0 0))] [] ?_
   refine AW.ret ?_
   obtain rfl := Option.some.inj h
   exact zR [] [2000] []

theorem hc_slices_Concat_2 (slices : List (List (Int × Int × Int × Bool))) {r : (List (Int × Int × Int × Bool))} (h : slices_Concat_2 slices = some r) : HC Try.prog 82 [] [.sl (.sl (.pair (.int .i64) (.pair (.int .i64) (.pair (.int .i64) .bool)))) slices] [(2000, .arr 61 (.pair (.int .i64) (.pair (.int .i64) (.pair (.int .i64) .bool))) r)] (.own 2000) := by
 unfold slices_Concat_2 at h
 refine zH Try.func82 [.tmp 2] 36 ?_
 refine zo ?_
 refine zB [(0, .sl (.sl (.pair (.int .i64) (.pair (.int .i64) (.pair (.int .i64) .bool)))) slices)] [] ?_
 refine zo ?_
 refine zB [(0, .sl (.sl (.pair (.int .i64) (.pair (.int .i64) (.pair (.int .i64) .bool)))) slices), (3, .int .i64 0)] [] ?_
 refine AW.have1 (fun b1 : Int => slices_Concat_2_k1 slices b1 = some r) (fun b1 => ⟨fr [(0, .sl (.sl (.pair (.int .i64) (.pair (.int .i64) (.pair (.int .i64) .bool)))) slices), (3, .int .i64 b1)], hpGet [], gt⟩) (fun b1 h => ?_) (fun hk_slices_Concat_2_k1 => ?_)
 ·as_aux_lemma =>
   unfold slices_Concat_2_k1 at h
   refine zo ?_
   refine zS 1 [(0, .sl (.sl (.pair (.int .i64) (.pair (.int .i64) (.pair (.int .i64) .bool)))) slices), (23, .int .i64 b1)] [] ?_
   obtain ⟨v0, hv1, h⟩ := Option.bind_eq_some_iff.1 h
   refine zC [] [] (hc_slices_Grow_2 b1 hv1) [(0, .sl (.sl (.pair (.int .i64) (.pair (.int .i64) (.pair (.int .i64) .bool)))) slices), (24, .own 34000)] [(34000, .arr 61 (.pair (.int .i64) (.pair (.int .i64) (.pair (.int .i64) .bool))) [])] ?_
   refine zB [(0, .sl (.sl (.pair (.int .i64) (.pair (.int .i64) (.pair (.int .i64) .bool)))) slices), (6, .own 34000)] [(34000, .arr 61 (.pair (.int .i64) (.pair (.int .i64) (.pair (.int .i64) .bool))) [])] ?_
   refine AW.have1 (fun b2 : (List (Int × Int × Int × Bool)) => slices_Concat_2_k2 b2 = some r) (fun b2 => ⟨fr [(6, .own 34000)], hpGet [(34000, .arr 61 (.pair (.int .i64) (.pair (.int .i64) (.pair (.int .i64) .bool))) b2)], gt⟩) (fun b2 h => ?_) (fun hk_slices_Concat_2_k2 => ?_)
   ·as_aux_lemma =>
     unfold slices_Concat_2_k2 at h
     refine zo ?_
     refine zB [(2, .own 34000)] [(34000, .arr 61 (.pair (.int .i64) (.pair (.int .i64) (.pair (.int .i64) .bool))) b2)] ?_
     refine AW.ret ?_
     obtain rfl := Option.some.inj h
     exact zR [] [] [(2000, 34000)]
   ·refine AW.seq ?_
    refine zo ?_
    refine zB [(6, .own 34000), (25, .sl (.sl (.pair (.int .i64) (.pair (.int .i64) (.pair (.int .i64) .bool)))) slices), (26, .int .i64 (slices.length : Int)), (27, .int .i64 0)] [(34000, .arr 61 (.pair (.int .i64) (.pair (.int .i64) (.pair (.int .i64) .bool))) [])] ?_
    refine AW.block ?_
    obtain ⟨rv6, hw2, ho3⟩ := Option.bind_eq_some_iff.1 h
    refine AW.loopO (slices_Concat_2_b2 slices) (fun st2 => ⟨fr [(6, .own 34000), (25, .sl (.sl (.pair (.int .i64) (.pair (.int .i64) (.pair (.int .i64) .bool)))) slices), (26, .int .i64 (slices.length : Int)), (27, .int .i64 st2.2)], hpGet [(34000, .arr 61 (.pair (.int .i64) (.pair (.int .i64) (.pair (.int .i64) .bool))) st2.1)], gt⟩) ([], 0) hw2 (zL [] [] []) ?_
    as_aux_lemma =>
     intro st2 x5 h hd4
     unfold slices_Concat_2_b2 at h
     refine zo ?_
     refine zB [(6, .own 34000), (25, .sl (.sl (.pair (.int .i64) (.pair (.int .i64) (.pair (.int .i64) .bool)))) slices), (26, .int .i64 (slices.length : Int)), (27, .int .i64 st2.2), (28, .bool (decide (st2.2 < (slices.length : Int))))] [(34000, .arr 61 (.pair (.int .i64) (.pair (.int .i64) (.pair (.int .i64) .bool))) st2.1)] ?_
     refine AW.seq ?_
     refine zQ h (fun hb7 h => ?_) (fun hb7 h => ?_)
     ·refine zk ?_
      refine AW.seq ?_
      refine AW.block ?_
      refine zo ?_
      obtain ⟨c8, h⟩ := ck_some.1 h
      obtain ⟨c9, h⟩ := ck_some.1 h
      refine zB [(6, .own 34000), (8, .sl (.pair (.int .i64) (.pair (.int .i64) (.pair (.int .i64) .bool))) (slices.getD st2.2.toNat [])), (25, .sl (.sl (.pair (.int .i64) (.pair (.int .i64) (.pair (.int .i64) .bool)))) slices), (26, .int .i64 (slices.length : Int)), (27, .int .i64 st2.2)] [(34000, .arr 61 (.pair (.int .i64) (.pair (.int .i64) (.pair (.int .i64) .bool))) st2.1)] ?_
      refine AW.ops ?_
      obtain ⟨c10, h⟩ := ck_some.1 h
      refine zA [(6, .own 33), (25, .sl (.sl (.pair (.int .i64) (.pair (.int .i64) (.pair (.int .i64) .bool)))) slices), (26, .int .i64 (slices.length : Int)), (27, .int .i64 st2.2)] [(33, .arr 61 (.pair (.int .i64) (.pair (.int .i64) (.pair (.int .i64) .bool))) (st2.1 ++ (slices.getD st2.2.toNat [])))] ?_
      refine ablock_n ?_
      refine athen_n ?_
      refine AW.ops ?_
      obtain ⟨c11, h⟩ := ck_some.1 h
      refine zA [(6, .own 33), (25, .sl (.sl (.pair (.int .i64) (.pair (.int .i64) (.pair (.int .i64) .bool)))) slices), (26, .int .i64 (slices.length : Int)), (27, .int .i64 (st2.2 + 1))] [(33, .arr 61 (.pair (.int .i64) (.pair (.int .i64) (.pair (.int .i64) .bool))) (st2.1 ++ (slices.getD st2.2.toNat [])))] ?_
      obtain rfl := Option.some.inj h
      exact ⟨_, rfl, zL [] [] [(34000, 33)]⟩
     ·refine AW.exit ?_
      refine athen_e ?_
      obtain rfl := Option.some.inj h
      rw [← hd4 _ rfl] at ho3
      have h := ho3
      refine athen_e ?_
      refine ablock_s ?_
      refine athen_n ?_
      exact AW.weaken (zL [] [] []) (hk_slices_Concat_2_k2 _ h)
 ·refine AW.seq ?_
  refine zo ?_
  refine zB [(0, .sl (.sl (.pair (.int .i64) (.pair (.int .i64) (.pair (.int .i64) .bool)))) slices), (3, .int .i64 0), (9, .sl (.sl (.pair (.int .i64) (.pair (.int .i64) (.pair (.int .i64) .bool)))) slices), (10, .int .i64 (slices.length : Int)), (11, .int .i64 0)] [] ?_
  refine AW.block ?_
  obtain ⟨rv16, hw12, ho13⟩ := Option.bind_eq_some_iff.1 h
  refine AW.loopO (slices_Concat_2_b1 slices) (fun st1 => ⟨fr [(0, .sl (.sl (.pair (.int .i64) (.pair (.int .i64) (.pair (.int .i64) .bool)))) slices), (3, .int .i64 st1.1), (9, .sl (.sl (.pair (.int .i64) (.pair (.int .i64) (.pair (.int .i64) .bool)))) slices), (10, .int .i64 (slices.length : Int)), (11, .int .i64 st1.2)], hpGet [], gt⟩) (0, 0) hw12 (zL [] [] []) ?_
  as_aux_lemma =>
   intro st1 x15 h hd14
   unfold slices_Concat_2_b1 at h
   refine zo ?_
   refine zB [(0, .sl (.sl (.pair (.int .i64) (.pair (.int .i64) (.pair (.int .i64) .bool)))) slices), (3, .int .i64 st1.1), (9, .sl (.sl (.pair (.int .i64) (.pair (.int .i64) (.pair (.int .i64) .bool)))) slices), (10, .int .i64 (slices.length : Int)), (11, .int .i64 st1.2), (12, .bool (decide (st1.2 < (slices.length : Int))))] [] ?_
   refine AW.seq ?_
   refine zQ h (fun hb17 h => ?_) (fun hb17 h => ?_)
   ·refine zk ?_
    refine AW.seq ?_
    refine AW.block ?_
    refine zo ?_
    obtain ⟨c18, h⟩ := ck_some.1 h
    obtain ⟨c19, h⟩ := ck_some.1 h
    refine zB [(0, .sl (.sl (.pair (.int .i64) (.pair (.int .i64) (.pair (.int .i64) .bool)))) slices), (3, .int .i64 st1.1), (5, .sl (.pair (.int .i64) (.pair (.int .i64) (.pair (.int .i64) .bool))) (slices.getD st1.2.toNat [])), (9, .sl (.sl (.pair (.int .i64) (.pair (.int .i64) (.pair (.int .i64) .bool)))) slices), (10, .int .i64 (slices.length : Int)), (11, .int .i64 st1.2)] [] ?_
    refine zo ?_
    obtain ⟨c20, h⟩ := ck_some.1 h
    refine zB [(0, .sl (.sl (.pair (.int .i64) (.pair (.int .i64) (.pair (.int .i64) .bool)))) slices), (3, .int .i64 (st1.1 + ((slices.getD st1.2.toNat []).length : Int))), (9, .sl (.sl (.pair (.int .i64) (.pair (.int .i64) (.pair (.int .i64) .bool)))) slices), (10, .int .i64 (slices.length : Int)), (11, .int .i64 st1.2)] [] ?_
    refine zo ?_
    refine zB [(0, .sl (.sl (.pair (.int .i64) (.pair (.int .i64) (.pair (.int .i64) .bool)))) slices), (3, .int .i64 (st1.1 + ((slices.getD st1.2.toNat []).length : Int))), (9, .sl (.sl (.pair (.int .i64) (.pair (.int .i64) (.pair (.int .i64) .bool)))) slices), (10, .int .i64 (slices.length : Int)), (11, .int .i64 st1.2), (20, .bool (decide ((st1.1 + ((slices.getD st1.2.toNat []).length : Int)) < 0)))] [] ?_
    refine zQ h (fun hb21 h => ?_) (fun hb21 h => ?_)
    ·refine AW.ops ?_
     cases h
    ·refine zm ?_
     refine athen_n ?_
     refine AW.ops ?_
     obtain ⟨c22, h⟩ := ck_some.1 h
     refine zA [(0, .sl (.sl (.pair (.int .i64) (.pair (.int .i64) (.pair (.int .i64) .bool)))) slices), (3, .int .i64 (st1.1 + ((slices.getD st1.2.toNat []).length : Int))), (9, .sl (.sl (.pair (.int .i64) (.pair (.int .i64) (.pair (.int .i64) .bool)))) slices), (10, .int .i64 (slices.length : Int)), (11, .int .i64 (st1.2 + 1))] [] ?_
     obtain rfl := Option.some.inj h
     exact ⟨_, rfl, zL [] [] []⟩
   ·refine AW.exit ?_
    refine athen_e ?_
    obtain rfl := Option.some.inj h
    rw [← hd14 _ rfl] at ho13
    have h := ho13
    refine athen_e ?_
    refine ablock_s ?_
    refine athen_n ?_
    exact AW.weaken (zL [] [] []) (hk_slices_Concat_2_k1 _ h)

end Go.Proofs.Yteclokkdgmacpaa
