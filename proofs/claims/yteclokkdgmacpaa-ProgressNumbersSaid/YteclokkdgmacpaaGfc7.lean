/-
  Made by wip/tool/dc.py out of the print of the program: contracts.
-/
import Derived.Test.YteclokkdgmacpaaGrp
import Derived.Test.YteclokkdgmacpaaSh7
import Derived.Test.YteclokkdgmacpaaAvd
import Derived.Test.YteclokkdgmacpaaGfc6
namespace Go.Proofs.Yteclokkdgmacpaa
open Go.RowKit

set_option linter.unusedSimpArgs false
set_option linter.unusedVariables false
set_option linter.constructorNameAsVariable false

set_option maxRecDepth 100000
set_option maxHeartbeats 2000000

theorem hc_linealref07_Valid (g : Int × (List (Int × Int × Int × Bool))) {r : Bool} (h : linealref07_Valid g = some r) : HC Try.prog 21 [] [.agg [.int .i64 g.1, .sl (.pair (.int .i64) (.pair (.int .i64) (.pair (.int .i64) .bool))) g.2]] [] (.bool r) := by
 unfold linealref07_Valid at h
 refine zH Try.func21 [.tmp 2] 61 ?_
 refine zo ?_
 refine zB [(1, .bp 1 0)] [(1, .box 24 [.int .i64 g.1, .sl (.pair (.int .i64) (.pair (.int .i64) (.pair (.int .i64) .bool))) g.2])] ?_
 refine AW.seq ?_
 refine zo ?_
 refine zS 4 [(1, .bp 1 0), (10, .bool (decide (g.1 < 1)))] [(1, .box 24 [.int .i64 g.1, .sl (.pair (.int .i64) (.pair (.int .i64) (.pair (.int .i64) .bool))) g.2])] ?_
 rcases zI h with ⟨hb1, h⟩ | ⟨hb1, h⟩
 ·refine zS 5 [(1, .bp 1 0), (15, .bool true)] [(1, .box 24 [.int .i64 g.1, .sl (.pair (.int .i64) (.pair (.int .i64) (.pair (.int .i64) .bool))) g.2])] ?_
  refine zS 4 [(1, .bp 1 0), (15, .bool true), (19, .cv (undef))] [(1, .box 24 [.int .i64 g.1, .sl (.pair (.int .i64) (.pair (.int .i64) (.pair (.int .i64) .bool))) g.2])] ?_
  refine zB [(1, .bp 1 0), (20, .bool true)] [(1, .box 24 [.int .i64 g.1, .sl (.pair (.int .i64) (.pair (.int .i64) (.pair (.int .i64) .bool))) g.2])] ?_
  refine AW.cond (b := true) rfl (fun _ => ?_) (fun hb2 => by cases hb2)
  refine zo ?_
  refine zB [(2, .bool false)] [] ?_
  refine zr ?_
  obtain rfl := Option.some.inj h
  exact zR [] [] []
 ·refine zS 5 [(1, .bp 1 0), (15, .bool (decide (8 < g.1)))] [(1, .box 24 [.int .i64 g.1, .sl (.pair (.int .i64) (.pair (.int .i64) (.pair (.int .i64) .bool))) g.2])] ?_
  rcases zI h with ⟨hb3, h⟩ | ⟨hb3, h⟩
  ·refine zS 4 [(1, .bp 1 0), (15, .bool true), (19, .cv (undef))] [(1, .box 24 [.int .i64 g.1, .sl (.pair (.int .i64) (.pair (.int .i64) (.pair (.int .i64) .bool))) g.2])] ?_
   refine zB [(1, .bp 1 0), (20, .bool true)] [(1, .box 24 [.int .i64 g.1, .sl (.pair (.int .i64) (.pair (.int .i64) (.pair (.int .i64) .bool))) g.2])] ?_
   refine AW.cond (b := true) rfl (fun _ => ?_) (fun hb4 => by cases hb4)
   refine zo ?_
   refine zB [(2, .bool false)] [] ?_
   refine zr ?_
   obtain rfl := Option.some.inj h
   exact zR [] [] []
  ·refine zB [(1, .bp 1 0), (20, .bool (decide (20 < (g.2.length : Int))))] [(1, .box 24 [.int .i64 g.1, .sl (.pair (.int .i64) (.pair (.int .i64) (.pair (.int .i64) .bool))) g.2])] ?_
   refine zQ h (fun hb5 h => ?_) (fun hb5 h => ?_)
   ·refine zo ?_
    refine zB [(2, .bool false)] [] ?_
    refine zr ?_
    obtain rfl := Option.some.inj h
    exact zR [] [] []
   ·refine zk ?_
    refine AW.have1 (fun _ : Unit => linealref07_Valid_k1 = some r) (fun _ => ⟨fr [], hpGet [], gt⟩) (fun _ h => ?_) (fun hk_linealref07_Valid_k1 => ?_)
    ·as_aux_lemma =>
      unfold linealref07_Valid_k1 at h
      refine zo ?_
      refine zB [(2, .bool true)] [] ?_
      refine AW.ret ?_
      obtain rfl := Option.some.inj h
      exact zR [] [] []
    ·refine AW.seq ?_
     refine zo ?_
     refine zB [(1, .bp 1 0), (22, .sl (.pair (.int .i64) (.pair (.int .i64) (.pair (.int .i64) .bool))) g.2), (23, .int .i64 (g.2.length : Int)), (24, .int .i64 0)] [(1, .box 24 [.int .i64 g.1, .sl (.pair (.int .i64) (.pair (.int .i64) (.pair (.int .i64) .bool))) g.2])] ?_
     refine AW.block ?_
     obtain ⟨rv10, hw6, ho7⟩ := Option.bind_eq_some_iff.1 h
     refine AW.loopO (linealref07_Valid_b1 g) (fun st1 => ⟨fr [(1, .bp 1 0), (22, .sl (.pair (.int .i64) (.pair (.int .i64) (.pair (.int .i64) .bool))) g.2), (23, .int .i64 (g.2.length : Int)), (24, .int .i64 st1)], hpGet [(1, .box 24 [.int .i64 g.1, .sl (.pair (.int .i64) (.pair (.int .i64) (.pair (.int .i64) .bool))) g.2])], gt⟩) 0 hw6 (zL [] [] []) ?_
     as_aux_lemma =>
      intro st1 x9 h hd8
      unfold linealref07_Valid_b1 at h
      refine zo ?_
      refine zB [(1, .bp 1 0), (22, .sl (.pair (.int .i64) (.pair (.int .i64) (.pair (.int .i64) .bool))) g.2), (23, .int .i64 (g.2.length : Int)), (24, .int .i64 st1), (25, .bool (decide (st1 < (g.2.length : Int))))] [(1, .box 24 [.int .i64 g.1, .sl (.pair (.int .i64) (.pair (.int .i64) (.pair (.int .i64) .bool))) g.2])] ?_
      refine AW.seq ?_
      refine zQ h (fun hb11 h => ?_) (fun hb11 h => ?_)
      ·refine zk ?_
       refine AW.have1 (fun _ : Unit => linealref07_Valid_k2 st1 = some x9) (fun _ => ⟨fr [(1, .bp 1 0), (22, .sl (.pair (.int .i64) (.pair (.int .i64) (.pair (.int .i64) .bool))) g.2), (23, .int .i64 (g.2.length : Int)), (24, .int .i64 st1)], hpGet [(1, .box 24 [.int .i64 g.1, .sl (.pair (.int .i64) (.pair (.int .i64) (.pair (.int .i64) .bool))) g.2])], gt⟩) (fun _ h => ?_) (fun hk_linealref07_Valid_k2 => ?_)
       ·as_aux_lemma =>
         unfold linealref07_Valid_k2 at h
         refine AW.ops ?_
         obtain ⟨c12, h⟩ := ck_some.1 h
         refine zA [(1, .bp 1 0), (22, .sl (.pair (.int .i64) (.pair (.int .i64) (.pair (.int .i64) .bool))) g.2), (23, .int .i64 (g.2.length : Int)), (24, .int .i64 (st1 + 1))] [(1, .box 24 [.int .i64 g.1, .sl (.pair (.int .i64) (.pair (.int .i64) (.pair (.int .i64) .bool))) g.2])] ?_
         obtain rfl := Option.some.inj h
         exact ⟨_, rfl, zL [] [] []⟩
       ·refine AW.seq ?_
        refine AW.block ?_
        refine zo ?_
        obtain ⟨c13, h⟩ := ck_some.1 h
        obtain ⟨c14, h⟩ := ck_some.1 h
        refine zS 5 [(1, .bp 1 0), (3, .int .i64 st1), (4, .bp 4 0), (22, .sl (.pair (.int .i64) (.pair (.int .i64) (.pair (.int .i64) .bool))) g.2), (23, .int .i64 (g.2.length : Int)), (24, .int .i64 st1), (28, .agg [.int .i64 (g.2.getD st1.toNat (0, 0, 0, false)).1, .int .i64 (g.2.getD st1.toNat (0, 0, 0, false)).2.1, .int .i64 (g.2.getD st1.toNat (0, 0, 0, false)).2.2.1, .bool (g.2.getD st1.toNat (0, 0, 0, false)).2.2.2])] [(1, .box 24 [.int .i64 g.1, .sl (.pair (.int .i64) (.pair (.int .i64) (.pair (.int .i64) .bool))) g.2]), (4, .box 61 [.int .i64 0, .int .i64 0, .int .i64 0, .bool false])] ?_
        refine zB [(1, .bp 1 0), (3, .int .i64 st1), (4, .bp 4 0), (22, .sl (.pair (.int .i64) (.pair (.int .i64) (.pair (.int .i64) .bool))) g.2), (23, .int .i64 (g.2.length : Int)), (24, .int .i64 st1)] [(1, .box 24 [.int .i64 g.1, .sl (.pair (.int .i64) (.pair (.int .i64) (.pair (.int .i64) .bool))) g.2]), (4, .box 61 [.int .i64 (g.2.getD st1.toNat (0, 0, 0, false)).1, .int .i64 (g.2.getD st1.toNat (0, 0, 0, false)).2.1, .int .i64 (g.2.getD st1.toNat (0, 0, 0, false)).2.2.1, .bool (g.2.getD st1.toNat (0, 0, 0, false)).2.2.2])] ?_
        refine AW.seq ?_
        refine zo ?_
        refine zS 3 [(1, .bp 1 0), (3, .int .i64 st1), (4, .bp 4 0), (22, .sl (.pair (.int .i64) (.pair (.int .i64) (.pair (.int .i64) .bool))) g.2), (23, .int .i64 (g.2.length : Int)), (24, .int .i64 st1), (29, .agg [.int .i64 g.1, .sl (.pair (.int .i64) (.pair (.int .i64) (.pair (.int .i64) .bool))) g.2]), (31, .int .i64 (g.2.getD st1.toNat (0, 0, 0, false)).1)] [(1, .box 24 [.int .i64 g.1, .sl (.pair (.int .i64) (.pair (.int .i64) (.pair (.int .i64) .bool))) g.2]), (4, .box 61 [.int .i64 (g.2.getD st1.toNat (0, 0, 0, false)).1, .int .i64 (g.2.getD st1.toNat (0, 0, 0, false)).2.1, .int .i64 (g.2.getD st1.toNat (0, 0, 0, false)).2.2.1, .bool (g.2.getD st1.toNat (0, 0, 0, false)).2.2.2])] ?_
        obtain ⟨v0, hv15, h⟩ := Option.bind_eq_some_iff.1 h
        refine zC [] [] (hc_linealref07_IsPlace g (g.2.getD st1.toNat (0, 0, 0, false)).1 hv15) [(1, .bp 1 0), (3, .int .i64 st1), (4, .bp 4 0), (22, .sl (.pair (.int .i64) (.pair (.int .i64) (.pair (.int .i64) .bool))) g.2), (23, .int .i64 (g.2.length : Int)), (24, .int .i64 st1), (32, .bool v0)] [(1, .box 24 [.int .i64 g.1, .sl (.pair (.int .i64) (.pair (.int .i64) (.pair (.int .i64) .bool))) g.2]), (4, .box 61 [.int .i64 (g.2.getD st1.toNat (0, 0, 0, false)).1, .int .i64 (g.2.getD st1.toNat (0, 0, 0, false)).2.1, .int .i64 (g.2.getD st1.toNat (0, 0, 0, false)).2.2.1, .bool (g.2.getD st1.toNat (0, 0, 0, false)).2.2.2])] ?_
        refine zS 2 [(1, .bp 1 0), (3, .int .i64 st1), (4, .bp 4 0), (22, .sl (.pair (.int .i64) (.pair (.int .i64) (.pair (.int .i64) .bool))) g.2), (23, .int .i64 (g.2.length : Int)), (24, .int .i64 st1), (34, .bool (!v0))] [(1, .box 24 [.int .i64 g.1, .sl (.pair (.int .i64) (.pair (.int .i64) (.pair (.int .i64) .bool))) g.2]), (4, .box 61 [.int .i64 (g.2.getD st1.toNat (0, 0, 0, false)).1, .int .i64 (g.2.getD st1.toNat (0, 0, 0, false)).2.1, .int .i64 (g.2.getD st1.toNat (0, 0, 0, false)).2.2.1, .bool (g.2.getD st1.toNat (0, 0, 0, false)).2.2.2])] ?_
        rcases zI h with ⟨hb16, h⟩ | ⟨hb16, h⟩
        ·refine zS 4 [(1, .bp 1 0), (3, .int .i64 st1), (4, .bp 4 0), (22, .sl (.pair (.int .i64) (.pair (.int .i64) (.pair (.int .i64) .bool))) g.2), (23, .int .i64 (g.2.length : Int)), (24, .int .i64 st1), (34, .bool true), (38, .cv (undef))] [(1, .box 24 [.int .i64 g.1, .sl (.pair (.int .i64) (.pair (.int .i64) (.pair (.int .i64) .bool))) g.2]), (4, .box 61 [.int .i64 (g.2.getD st1.toNat (0, 0, 0, false)).1, .int .i64 (g.2.getD st1.toNat (0, 0, 0, false)).2.1, .int .i64 (g.2.getD st1.toNat (0, 0, 0, false)).2.2.1, .bool (g.2.getD st1.toNat (0, 0, 0, false)).2.2.2])] ?_
         refine zS 5 [(1, .bp 1 0), (3, .int .i64 st1), (4, .bp 4 0), (22, .sl (.pair (.int .i64) (.pair (.int .i64) (.pair (.int .i64) .bool))) g.2), (23, .int .i64 (g.2.length : Int)), (24, .int .i64 st1), (41, .bool true), (43, .cv (undef))] [(1, .box 24 [.int .i64 g.1, .sl (.pair (.int .i64) (.pair (.int .i64) (.pair (.int .i64) .bool))) g.2]), (4, .box 61 [.int .i64 (g.2.getD st1.toNat (0, 0, 0, false)).1, .int .i64 (g.2.getD st1.toNat (0, 0, 0, false)).2.1, .int .i64 (g.2.getD st1.toNat (0, 0, 0, false)).2.2.1, .bool (g.2.getD st1.toNat (0, 0, 0, false)).2.2.2])] ?_
         refine zB [(1, .bp 1 0), (3, .int .i64 st1), (4, .bp 4 0), (22, .sl (.pair (.int .i64) (.pair (.int .i64) (.pair (.int .i64) .bool))) g.2), (23, .int .i64 (g.2.length : Int)), (24, .int .i64 st1), (46, .bool true)] [(1, .box 24 [.int .i64 g.1, .sl (.pair (.int .i64) (.pair (.int .i64) (.pair (.int .i64) .bool))) g.2]), (4, .box 61 [.int .i64 (g.2.getD st1.toNat (0, 0, 0, false)).1, .int .i64 (g.2.getD st1.toNat (0, 0, 0, false)).2.1, .int .i64 (g.2.getD st1.toNat (0, 0, 0, false)).2.2.1, .bool (g.2.getD st1.toNat (0, 0, 0, false)).2.2.2])] ?_
         refine AW.cond (b := true) rfl (fun _ => ?_) (fun hb17 => by cases hb17)
         refine zo ?_
         refine zB [(2, .bool false)] [] ?_
         refine zr ?_
         refine ablock_r ?_
         refine athen_r ?_
         obtain rfl := Option.some.inj h
         rw [← hd8 _ rfl] at ho7
         have h := ho7
         try simp only at h
         refine athen_r ?_
         refine ablock_r ?_
         refine athen_r ?_
         obtain rfl := Option.some.inj h
         exact zR [] [] []
        ·refine zS 3 [(1, .bp 1 0), (3, .int .i64 st1), (4, .bp 4 0), (22, .sl (.pair (.int .i64) (.pair (.int .i64) (.pair (.int .i64) .bool))) g.2), (23, .int .i64 (g.2.length : Int)), (24, .int .i64 st1), (34, .bool false), (35, .agg [.int .i64 g.1, .sl (.pair (.int .i64) (.pair (.int .i64) (.pair (.int .i64) .bool))) g.2]), (37, .int .i64 (g.2.getD st1.toNat (0, 0, 0, false)).2.2.1)] [(1, .box 24 [.int .i64 g.1, .sl (.pair (.int .i64) (.pair (.int .i64) (.pair (.int .i64) .bool))) g.2]), (4, .box 61 [.int .i64 (g.2.getD st1.toNat (0, 0, 0, false)).1, .int .i64 (g.2.getD st1.toNat (0, 0, 0, false)).2.1, .int .i64 (g.2.getD st1.toNat (0, 0, 0, false)).2.2.1, .bool (g.2.getD st1.toNat (0, 0, 0, false)).2.2.2])] ?_
         obtain ⟨v0_2, hv18, h⟩ := Option.bind_eq_some_iff.1 h
         refine zG [] [] (hc_linealref07_IsPlace g (g.2.getD st1.toNat (0, 0, 0, false)).2.2.1 hv18) [(1, .bp 1 0), (3, .int .i64 st1), (4, .bp 4 0), (22, .sl (.pair (.int .i64) (.pair (.int .i64) (.pair (.int .i64) .bool))) g.2), (23, .int .i64 (g.2.length : Int)), (24, .int .i64 st1), (34, .bool false), (38, .bool v0_2)] [(1, .box 24 [.int .i64 g.1, .sl (.pair (.int .i64) (.pair (.int .i64) (.pair (.int .i64) .bool))) g.2]), (4, .box 61 [.int .i64 (g.2.getD st1.toNat (0, 0, 0, false)).1, .int .i64 (g.2.getD st1.toNat (0, 0, 0, false)).2.1, .int .i64 (g.2.getD st1.toNat (0, 0, 0, false)).2.2.1, .bool (g.2.getD st1.toNat (0, 0, 0, false)).2.2.2])] ?_
         refine zS 3 [(1, .bp 1 0), (3, .int .i64 st1), (4, .bp 4 0), (22, .sl (.pair (.int .i64) (.pair (.int .i64) (.pair (.int .i64) .bool))) g.2), (23, .int .i64 (g.2.length : Int)), (24, .int .i64 st1), (41, .bool (!v0_2))] [(1, .box 24 [.int .i64 g.1, .sl (.pair (.int .i64) (.pair (.int .i64) (.pair (.int .i64) .bool))) g.2]), (4, .box 61 [.int .i64 (g.2.getD st1.toNat (0, 0, 0, false)).1, .int .i64 (g.2.getD st1.toNat (0, 0, 0, false)).2.1, .int .i64 (g.2.getD st1.toNat (0, 0, 0, false)).2.2.1, .bool (g.2.getD st1.toNat (0, 0, 0, false)).2.2.2])] ?_
         rcases zI h with ⟨hb19, h⟩ | ⟨hb19, h⟩
         ·refine zS 4 [(1, .bp 1 0), (3, .int .i64 st1), (4, .bp 4 0), (22, .sl (.pair (.int .i64) (.pair (.int .i64) (.pair (.int .i64) .bool))) g.2), (23, .int .i64 (g.2.length : Int)), (24, .int .i64 st1), (41, .bool true), (45, .cv (undef))] [(1, .box 24 [.int .i64 g.1, .sl (.pair (.int .i64) (.pair (.int .i64) (.pair (.int .i64) .bool))) g.2]), (4, .box 61 [.int .i64 (g.2.getD st1.toNat (0, 0, 0, false)).1, .int .i64 (g.2.getD st1.toNat (0, 0, 0, false)).2.1, .int .i64 (g.2.getD st1.toNat (0, 0, 0, false)).2.2.1, .bool (g.2.getD st1.toNat (0, 0, 0, false)).2.2.2])] ?_
          refine zB [(1, .bp 1 0), (3, .int .i64 st1), (4, .bp 4 0), (22, .sl (.pair (.int .i64) (.pair (.int .i64) (.pair (.int .i64) .bool))) g.2), (23, .int .i64 (g.2.length : Int)), (24, .int .i64 st1), (46, .bool true)] [(1, .box 24 [.int .i64 g.1, .sl (.pair (.int .i64) (.pair (.int .i64) (.pair (.int .i64) .bool))) g.2]), (4, .box 61 [.int .i64 (g.2.getD st1.toNat (0, 0, 0, false)).1, .int .i64 (g.2.getD st1.toNat (0, 0, 0, false)).2.1, .int .i64 (g.2.getD st1.toNat (0, 0, 0, false)).2.2.1, .bool (g.2.getD st1.toNat (0, 0, 0, false)).2.2.2])] ?_
          refine AW.cond (b := true) rfl (fun _ => ?_) (fun hb20 => by cases hb20)
          refine zo ?_
          refine zB [(2, .bool false)] [] ?_
          refine zr ?_
          refine ablock_r ?_
          refine athen_r ?_
          obtain rfl := Option.some.inj h
          rw [← hd8 _ rfl] at ho7
          have h := ho7
          try simp only at h
          refine athen_r ?_
          refine ablock_r ?_
          refine athen_r ?_
          obtain rfl := Option.some.inj h
          exact zR [] [] []
         ·refine zS 2 [(1, .bp 1 0), (3, .int .i64 st1), (4, .bp 4 0), (22, .sl (.pair (.int .i64) (.pair (.int .i64) (.pair (.int .i64) .bool))) g.2), (23, .int .i64 (g.2.length : Int)), (24, .int .i64 st1), (41, .bool false), (43, .int .i64 (g.2.getD st1.toNat (0, 0, 0, false)).2.1)] [(1, .box 24 [.int .i64 g.1, .sl (.pair (.int .i64) (.pair (.int .i64) (.pair (.int .i64) .bool))) g.2]), (4, .box 61 [.int .i64 (g.2.getD st1.toNat (0, 0, 0, false)).1, .int .i64 (g.2.getD st1.toNat (0, 0, 0, false)).2.1, .int .i64 (g.2.getD st1.toNat (0, 0, 0, false)).2.2.1, .bool (g.2.getD st1.toNat (0, 0, 0, false)).2.2.2])] ?_
          obtain ⟨v0_3, hv21, h⟩ := Option.bind_eq_some_iff.1 h
          refine zG [] [] (hc_linealref07_IsThread (g.2.getD st1.toNat (0, 0, 0, false)).2.1 hv21) [(1, .bp 1 0), (3, .int .i64 st1), (4, .bp 4 0), (22, .sl (.pair (.int .i64) (.pair (.int .i64) (.pair (.int .i64) .bool))) g.2), (23, .int .i64 (g.2.length : Int)), (24, .int .i64 st1), (41, .bool false), (44, .bool v0_3)] [(1, .box 24 [.int .i64 g.1, .sl (.pair (.int .i64) (.pair (.int .i64) (.pair (.int .i64) .bool))) g.2]), (4, .box 61 [.int .i64 (g.2.getD st1.toNat (0, 0, 0, false)).1, .int .i64 (g.2.getD st1.toNat (0, 0, 0, false)).2.1, .int .i64 (g.2.getD st1.toNat (0, 0, 0, false)).2.2.1, .bool (g.2.getD st1.toNat (0, 0, 0, false)).2.2.2])] ?_
          refine zB [(1, .bp 1 0), (3, .int .i64 st1), (4, .bp 4 0), (22, .sl (.pair (.int .i64) (.pair (.int .i64) (.pair (.int .i64) .bool))) g.2), (23, .int .i64 (g.2.length : Int)), (24, .int .i64 st1), (46, .bool (!v0_3))] [(1, .box 24 [.int .i64 g.1, .sl (.pair (.int .i64) (.pair (.int .i64) (.pair (.int .i64) .bool))) g.2]), (4, .box 61 [.int .i64 (g.2.getD st1.toNat (0, 0, 0, false)).1, .int .i64 (g.2.getD st1.toNat (0, 0, 0, false)).2.1, .int .i64 (g.2.getD st1.toNat (0, 0, 0, false)).2.2.1, .bool (g.2.getD st1.toNat (0, 0, 0, false)).2.2.2])] ?_
          refine zQ h (fun hb22 h => ?_) (fun hb22 h => ?_)
          ·refine zo ?_
           refine zB [(2, .bool false)] [] ?_
           refine zr ?_
           refine ablock_r ?_
           refine athen_r ?_
           obtain rfl := Option.some.inj h
           rw [← hd8 _ rfl] at ho7
           have h := ho7
           try simp only at h
           refine athen_r ?_
           refine ablock_r ?_
           refine athen_r ?_
           obtain rfl := Option.some.inj h
           exact zR [] [] []
          ·refine zk ?_
           refine zo ?_
           obtain ⟨c23, h⟩ := ck_some.1 h
           obtain ⟨c24, h⟩ := ck_some.1 h
           refine zS 5 [(1, .bp 1 0), (4, .bp 4 0), (22, .sl (.pair (.int .i64) (.pair (.int .i64) (.pair (.int .i64) .bool))) g.2), (23, .int .i64 (g.2.length : Int)), (24, .int .i64 st1), (50, .sl (.pair (.int .i64) (.pair (.int .i64) (.pair (.int .i64) .bool))) (g.2.take st1.toNat)), (51, .int .i64 ((g.2.take st1.toNat).length : Int))] [(1, .box 24 [.int .i64 g.1, .sl (.pair (.int .i64) (.pair (.int .i64) (.pair (.int .i64) .bool))) g.2]), (4, .box 61 [.int .i64 (g.2.getD st1.toNat (0, 0, 0, false)).1, .int .i64 (g.2.getD st1.toNat (0, 0, 0, false)).2.1, .int .i64 (g.2.getD st1.toNat (0, 0, 0, false)).2.2.1, .bool (g.2.getD st1.toNat (0, 0, 0, false)).2.2.2])] ?_
           refine zB [(1, .bp 1 0), (4, .bp 4 0), (22, .sl (.pair (.int .i64) (.pair (.int .i64) (.pair (.int .i64) .bool))) g.2), (23, .int .i64 (g.2.length : Int)), (24, .int .i64 st1), (50, .sl (.pair (.int .i64) (.pair (.int .i64) (.pair (.int .i64) .bool))) (g.2.take st1.toNat)), (51, .int .i64 ((g.2.take st1.toNat).length : Int)), (52, .int .i64 0)] [(1, .box 24 [.int .i64 g.1, .sl (.pair (.int .i64) (.pair (.int .i64) (.pair (.int .i64) .bool))) g.2]), (4, .box 61 [.int .i64 (g.2.getD st1.toNat (0, 0, 0, false)).1, .int .i64 (g.2.getD st1.toNat (0, 0, 0, false)).2.1, .int .i64 (g.2.getD st1.toNat (0, 0, 0, false)).2.2.1, .bool (g.2.getD st1.toNat (0, 0, 0, false)).2.2.2])] ?_
           refine AW.block ?_
           obtain ⟨rv29, hw25, ho26⟩ := Option.bind_eq_some_iff.1 h
           refine AW.loopO (linealref07_Valid_b2 g st1) (fun st2 => ⟨fr [(1, .bp 1 0), (4, .bp 4 0), (22, .sl (.pair (.int .i64) (.pair (.int .i64) (.pair (.int .i64) .bool))) g.2), (23, .int .i64 (g.2.length : Int)), (24, .int .i64 st1), (50, .sl (.pair (.int .i64) (.pair (.int .i64) (.pair (.int .i64) .bool))) (g.2.take st1.toNat)), (51, .int .i64 ((g.2.take st1.toNat).length : Int)), (52, .int .i64 st2)], hpGet [(1, .box 24 [.int .i64 g.1, .sl (.pair (.int .i64) (.pair (.int .i64) (.pair (.int .i64) .bool))) g.2]), (4, .box 61 [.int .i64 (g.2.getD st1.toNat (0, 0, 0, false)).1, .int .i64 (g.2.getD st1.toNat (0, 0, 0, false)).2.1, .int .i64 (g.2.getD st1.toNat (0, 0, 0, false)).2.2.1, .bool (g.2.getD st1.toNat (0, 0, 0, false)).2.2.2])], gt⟩) 0 hw25 (zL [] [] []) ?_
           as_aux_lemma =>
            intro st2 x28 h hd27
            unfold linealref07_Valid_b2 at h
            refine zo ?_
            refine zB [(1, .bp 1 0), (4, .bp 4 0), (22, .sl (.pair (.int .i64) (.pair (.int .i64) (.pair (.int .i64) .bool))) g.2), (23, .int .i64 (g.2.length : Int)), (24, .int .i64 st1), (50, .sl (.pair (.int .i64) (.pair (.int .i64) (.pair (.int .i64) .bool))) (g.2.take st1.toNat)), (51, .int .i64 ((g.2.take st1.toNat).length : Int)), (52, .int .i64 st2), (53, .bool (decide (st2 < ((g.2.take st1.toNat).length : Int))))] [(1, .box 24 [.int .i64 g.1, .sl (.pair (.int .i64) (.pair (.int .i64) (.pair (.int .i64) .bool))) g.2]), (4, .box 61 [.int .i64 (g.2.getD st1.toNat (0, 0, 0, false)).1, .int .i64 (g.2.getD st1.toNat (0, 0, 0, false)).2.1, .int .i64 (g.2.getD st1.toNat (0, 0, 0, false)).2.2.1, .bool (g.2.getD st1.toNat (0, 0, 0, false)).2.2.2])] ?_
            refine AW.seq ?_
            refine zQ h (fun hb30 h => ?_) (fun hb30 h => ?_)
            ·refine zk ?_
             refine AW.seq ?_
             refine AW.block ?_
             refine zo ?_
             obtain ⟨c31, h⟩ := ck_some.1 h
             obtain ⟨c32, h⟩ := ck_some.1 h
             refine zB [(1, .bp 1 0), (4, .bp 4 0), (6, .bp 6 0), (22, .sl (.pair (.int .i64) (.pair (.int .i64) (.pair (.int .i64) .bool))) g.2), (23, .int .i64 (g.2.length : Int)), (24, .int .i64 st1), (50, .sl (.pair (.int .i64) (.pair (.int .i64) (.pair (.int .i64) .bool))) (g.2.take st1.toNat)), (51, .int .i64 ((g.2.take st1.toNat).length : Int)), (52, .int .i64 st2)] [(1, .box 24 [.int .i64 g.1, .sl (.pair (.int .i64) (.pair (.int .i64) (.pair (.int .i64) .bool))) g.2]), (4, .box 61 [.int .i64 (g.2.getD st1.toNat (0, 0, 0, false)).1, .int .i64 (g.2.getD st1.toNat (0, 0, 0, false)).2.1, .int .i64 (g.2.getD st1.toNat (0, 0, 0, false)).2.2.1, .bool (g.2.getD st1.toNat (0, 0, 0, false)).2.2.2]), (6, .box 61 [.int .i64 ((g.2.take st1.toNat).getD st2.toNat (0, 0, 0, false)).1, .int .i64 ((g.2.take st1.toNat).getD st2.toNat (0, 0, 0, false)).2.1, .int .i64 ((g.2.take st1.toNat).getD st2.toNat (0, 0, 0, false)).2.2.1, .bool ((g.2.take st1.toNat).getD st2.toNat (0, 0, 0, false)).2.2.2])] ?_
             refine zo ?_
             refine zS 2 [(1, .bp 1 0), (4, .bp 4 0), (22, .sl (.pair (.int .i64) (.pair (.int .i64) (.pair (.int .i64) .bool))) g.2), (23, .int .i64 (g.2.length : Int)), (24, .int .i64 st1), (50, .sl (.pair (.int .i64) (.pair (.int .i64) (.pair (.int .i64) .bool))) (g.2.take st1.toNat)), (51, .int .i64 ((g.2.take st1.toNat).length : Int)), (52, .int .i64 st2), (56, .agg [.int .i64 (g.2.getD st1.toNat (0, 0, 0, false)).1, .int .i64 (g.2.getD st1.toNat (0, 0, 0, false)).2.1, .int .i64 (g.2.getD st1.toNat (0, 0, 0, false)).2.2.1, .bool (g.2.getD st1.toNat (0, 0, 0, false)).2.2.2]), (57, .agg [.int .i64 ((g.2.take st1.toNat).getD st2.toNat (0, 0, 0, false)).1, .int .i64 ((g.2.take st1.toNat).getD st2.toNat (0, 0, 0, false)).2.1, .int .i64 ((g.2.take st1.toNat).getD st2.toNat (0, 0, 0, false)).2.2.1, .bool ((g.2.take st1.toNat).getD st2.toNat (0, 0, 0, false)).2.2.2])] [(1, .box 24 [.int .i64 g.1, .sl (.pair (.int .i64) (.pair (.int .i64) (.pair (.int .i64) .bool))) g.2]), (4, .box 61 [.int .i64 (g.2.getD st1.toNat (0, 0, 0, false)).1, .int .i64 (g.2.getD st1.toNat (0, 0, 0, false)).2.1, .int .i64 (g.2.getD st1.toNat (0, 0, 0, false)).2.2.1, .bool (g.2.getD st1.toNat (0, 0, 0, false)).2.2.2])] ?_
             obtain ⟨c33, h⟩ := ck_some.1 h
             obtain ⟨c34, h⟩ := ck_some.1 h
             obtain ⟨c35, h⟩ := ck_some.1 h
             obtain ⟨c36, h⟩ := ck_some.1 h
             obtain ⟨c37, h⟩ := ck_some.1 h
             obtain ⟨c38, h⟩ := ck_some.1 h
             refine AO.aggEq (neg := false) eqty_61 (by decide) rfl rfl (lx := [.int .i64 (g.2.getD st1.toNat (0, 0, 0, false)).1, .int .i64 (g.2.getD st1.toNat (0, 0, 0, false)).2.1, .int .i64 (g.2.getD st1.toNat (0, 0, 0, false)).2.2.1, .bool (g.2.getD st1.toNat (0, 0, 0, false)).2.2.2]) (ly := [.int .i64 ((g.2.take st1.toNat).getD st2.toNat (0, 0, 0, false)).1, .int .i64 ((g.2.take st1.toNat).getD st2.toNat (0, 0, 0, false)).2.1, .int .i64 ((g.2.take st1.toNat).getD st2.toNat (0, 0, 0, false)).2.2.1, .bool ((g.2.take st1.toNat).getD st2.toNat (0, 0, 0, false)).2.2.2]) (by first | rfl | (simp only [go_sem, hb1, hb3, hb5, hb11, hb16, hb19, hb22, hb30]) <;> (with_reducible and_intros) <;> first | assumption | rfl | omega | (unfold maxLen; omega)) (by first | rfl | (simp only [go_sem, hb1, hb3, hb5, hb11, hb16, hb19, hb22, hb30]) <;> (with_reducible and_intros) <;> first | assumption | rfl | omega | (unfold maxLen; omega)) (by first | rfl | (simp only [go_sem, hb1, hb3, hb5, hb11, hb16, hb19, hb22, hb30]) <;> (with_reducible and_intros) <;> first | assumption | rfl | omega | (unfold maxLen; omega)) (by first | rfl | (simp only [go_sem, hb1, hb3, hb5, hb11, hb16, hb19, hb22, hb30]) <;> (with_reducible and_intros) <;> first | assumption | rfl | omega | (unfold maxLen; omega)) (by first | assumption | omega | (simp only [go_sem, hb1, hb3, hb5, hb11, hb16, hb19, hb22, hb30]) <;> (with_reducible and_intros) <;> first | assumption | rfl | omega | (unfold maxLen; omega)) (by first | assumption | omega | (simp only [go_sem, hb1, hb3, hb5, hb11, hb16, hb19, hb22, hb30]) <;> (with_reducible and_intros) <;> first | assumption | rfl | omega | (unfold maxLen; omega)) ?_
             refine zT [(1, .bp 1 0), (4, .bp 4 0), (22, .sl (.pair (.int .i64) (.pair (.int .i64) (.pair (.int .i64) .bool))) g.2), (23, .int .i64 (g.2.length : Int)), (24, .int .i64 st1), (50, .sl (.pair (.int .i64) (.pair (.int .i64) (.pair (.int .i64) .bool))) (g.2.take st1.toNat)), (51, .int .i64 ((g.2.take st1.toNat).length : Int)), (52, .int .i64 st2), (58, .bool (decide ((g.2.getD st1.toNat (0, 0, 0, false)) = ((g.2.take st1.toNat).getD st2.toNat (0, 0, 0, false)))))] [(1, .box 24 [.int .i64 g.1, .sl (.pair (.int .i64) (.pair (.int .i64) (.pair (.int .i64) .bool))) g.2]), (4, .box 61 [.int .i64 (g.2.getD st1.toNat (0, 0, 0, false)).1, .int .i64 (g.2.getD st1.toNat (0, 0, 0, false)).2.1, .int .i64 (g.2.getD st1.toNat (0, 0, 0, false)).2.2.1, .bool (g.2.getD st1.toNat (0, 0, 0, false)).2.2.2])] gt ?_
             refine zB [(1, .bp 1 0), (4, .bp 4 0), (22, .sl (.pair (.int .i64) (.pair (.int .i64) (.pair (.int .i64) .bool))) g.2), (23, .int .i64 (g.2.length : Int)), (24, .int .i64 st1), (50, .sl (.pair (.int .i64) (.pair (.int .i64) (.pair (.int .i64) .bool))) (g.2.take st1.toNat)), (51, .int .i64 ((g.2.take st1.toNat).length : Int)), (52, .int .i64 st2), (58, .bool (decide ((g.2.getD st1.toNat (0, 0, 0, false)) = ((g.2.take st1.toNat).getD st2.toNat (0, 0, 0, false)))))] [(1, .box 24 [.int .i64 g.1, .sl (.pair (.int .i64) (.pair (.int .i64) (.pair (.int .i64) .bool))) g.2]), (4, .box 61 [.int .i64 (g.2.getD st1.toNat (0, 0, 0, false)).1, .int .i64 (g.2.getD st1.toNat (0, 0, 0, false)).2.1, .int .i64 (g.2.getD st1.toNat (0, 0, 0, false)).2.2.1, .bool (g.2.getD st1.toNat (0, 0, 0, false)).2.2.2])] ?_
             refine zQ h (fun hb39 h => ?_) (fun hb39 h => ?_)
             ·refine zo ?_
              refine zB [(2, .bool false)] [] ?_
              refine AW.ret ?_
              refine ablock_r ?_
              refine athen_r ?_
              obtain rfl := Option.some.inj h
              rw [← hd27 _ rfl] at ho26
              have h := ho26
              try simp only at h
              refine athen_r ?_
              refine ablock_r ?_
              refine ablock_r ?_
              refine athen_r ?_
              obtain rfl := Option.some.inj h
              rw [← hd8 _ rfl] at ho7
              have h := ho7
              try simp only at h
              refine athen_r ?_
              refine ablock_r ?_
              refine athen_r ?_
              obtain rfl := Option.some.inj h
              exact zR [] [] []
             ·refine zm ?_
              refine athen_n ?_
              refine AW.ops ?_
              obtain ⟨c40, h⟩ := ck_some.1 h
              refine zA [(1, .bp 1 0), (4, .bp 4 0), (22, .sl (.pair (.int .i64) (.pair (.int .i64) (.pair (.int .i64) .bool))) g.2), (23, .int .i64 (g.2.length : Int)), (24, .int .i64 st1), (50, .sl (.pair (.int .i64) (.pair (.int .i64) (.pair (.int .i64) .bool))) (g.2.take st1.toNat)), (51, .int .i64 ((g.2.take st1.toNat).length : Int)), (52, .int .i64 (st2 + 1))] [(1, .box 24 [.int .i64 g.1, .sl (.pair (.int .i64) (.pair (.int .i64) (.pair (.int .i64) .bool))) g.2]), (4, .box 61 [.int .i64 (g.2.getD st1.toNat (0, 0, 0, false)).1, .int .i64 (g.2.getD st1.toNat (0, 0, 0, false)).2.1, .int .i64 (g.2.getD st1.toNat (0, 0, 0, false)).2.2.1, .bool (g.2.getD st1.toNat (0, 0, 0, false)).2.2.2])] ?_
              obtain rfl := Option.some.inj h
              exact ⟨_, rfl, zL [] [] []⟩
            ·refine AW.exit ?_
             refine athen_e ?_
             obtain rfl := Option.some.inj h
             rw [← hd27 _ rfl] at ho26
             have h := ho26
             try simp only at h
             refine athen_e ?_
             refine ablock_s ?_
             refine ablock_n ?_
             refine athen_n ?_
             exact AW.weaken (zL [] [] []) (hk_linealref07_Valid_k2 () h)
      ·refine AW.exit ?_
       refine athen_e ?_
       obtain rfl := Option.some.inj h
       rw [← hd8 _ rfl] at ho7
       have h := ho7
       try simp only at h
       refine athen_e ?_
       refine ablock_s ?_
       refine athen_n ?_
       exact AW.weaken (zL [] [] []) (hk_linealref07_Valid_k1 () h)

theorem hc_linealref07_reached (g : Int × (List (Int × Int × Int × Bool))) {r : (List Bool)} (h : linealref07_reached g = some r) : HC Try.prog 65 [] [.agg [.int .i64 g.1, .sl (.pair (.int .i64) (.pair (.int .i64) (.pair (.int .i64) .bool))) g.2]] [(2000, .arr 4 .bool r)] (.own 2000) := by
 unfold linealref07_reached at h
 refine zH Try.func65 [.tmp 2] 41 ?_
 refine zo ?_
 refine zB [(1, .bp 1 0)] [(1, .box 24 [.int .i64 g.1, .sl (.pair (.int .i64) (.pair (.int .i64) (.pair (.int .i64) .bool))) g.2])] ?_
 refine zo ?_
 obtain ⟨c1, h⟩ := ck_some.1 h
 obtain ⟨c2, h⟩ := ck_some.1 h
 refine zB [(1, .bp 1 0), (3, .own 8)] [(1, .box 24 [.int .i64 g.1, .sl (.pair (.int .i64) (.pair (.int .i64) (.pair (.int .i64) .bool))) g.2]), (8, .arr 4 .bool (List.replicate g.1.toNat (false : Bool)))] ?_
 refine zo ?_
 obtain ⟨c3, h⟩ := ck_some.1 h
 refine zB [(1, .bp 1 0), (3, .own 8)] [(1, .box 24 [.int .i64 g.1, .sl (.pair (.int .i64) (.pair (.int .i64) (.pair (.int .i64) .bool))) g.2]), (8, .arr 4 .bool ((List.replicate g.1.toNat (false : Bool)).set 0 true))] ?_
 refine AW.have1 (fun b2_2 : (List Bool) => linealref07_reached_k1 b2_2 = some r) (fun b2_2 => ⟨fr [(3, .own 8)], hpGet [(8, .arr 4 .bool b2_2)], gt⟩) (fun b2_2 h => ?_) (fun hk_linealref07_reached_k1 => ?_)
 ·as_aux_lemma =>
   unfold linealref07_reached_k1 at h
   refine zo ?_
   refine zB [(2, .own 8)] [(8, .arr 4 .bool b2_2)] ?_
   refine AW.ret ?_
   obtain rfl := Option.some.inj h
   exact zR [] [] [(2000, 8)]
 ·refine AW.seq ?_
  refine zo ?_
  refine zB [(1, .bp 1 0), (3, .own 8), (12, .int .i64 g.1), (13, .int .i64 0)] [(1, .box 24 [.int .i64 g.1, .sl (.pair (.int .i64) (.pair (.int .i64) (.pair (.int .i64) .bool))) g.2]), (8, .arr 4 .bool ((List.replicate g.1.toNat (false : Bool)).set 0 true))] ?_
  refine AW.block ?_
  obtain ⟨rv8, hw4, ho5⟩ := Option.bind_eq_some_iff.1 h
  refine AW.loopO (linealref07_reached_b1 g) (fun st1 => ⟨fr [(1, .bp 1 0), (3, .own 8), (12, .int .i64 g.1), (13, .int .i64 st1.2)], hpGet [(1, .box 24 [.int .i64 g.1, .sl (.pair (.int .i64) (.pair (.int .i64) (.pair (.int .i64) .bool))) g.2]), (8, .arr 4 .bool st1.1)], gt⟩) (((List.replicate g.1.toNat (false : Bool)).set 0 true), 0) hw4 (zL [] [] []) ?_
  as_aux_lemma =>
   intro st1 x7 h hd6
   unfold linealref07_reached_b1 at h
   refine zo ?_
   refine zB [(1, .bp 1 0), (3, .own 8), (12, .int .i64 g.1), (13, .int .i64 st1.2), (14, .bool (decide (st1.2 < g.1)))] [(1, .box 24 [.int .i64 g.1, .sl (.pair (.int .i64) (.pair (.int .i64) (.pair (.int .i64) .bool))) g.2]), (8, .arr 4 .bool st1.1)] ?_
   refine AW.seq ?_
   refine zQ h (fun hb9 h => ?_) (fun hb9 h => ?_)
   ·refine zk ?_
    refine AW.have1 (fun b2 : (List Bool) => linealref07_reached_k2 st1 b2 = some x7) (fun b2 => ⟨fr [(1, .bp 1 0), (3, .own 8), (12, .int .i64 g.1), (13, .int .i64 st1.2)], hpGet [(1, .box 24 [.int .i64 g.1, .sl (.pair (.int .i64) (.pair (.int .i64) (.pair (.int .i64) .bool))) g.2]), (8, .arr 4 .bool b2)], gt⟩) (fun b2 h => ?_) (fun hk_linealref07_reached_k2 => ?_)
    ·as_aux_lemma =>
      unfold linealref07_reached_k2 at h
      refine AW.ops ?_
      obtain ⟨c10, h⟩ := ck_some.1 h
      refine zA [(1, .bp 1 0), (3, .own 8), (12, .int .i64 g.1), (13, .int .i64 (st1.2 + 1))] [(1, .box 24 [.int .i64 g.1, .sl (.pair (.int .i64) (.pair (.int .i64) (.pair (.int .i64) .bool))) g.2]), (8, .arr 4 .bool b2)] ?_
      obtain rfl := Option.some.inj h
      exact ⟨_, rfl, zL [] [] []⟩
    ·refine AW.seq ?_
     refine AW.block ?_
     refine zo ?_
     refine zB [(1, .bp 1 0), (3, .own 8), (12, .int .i64 g.1), (13, .int .i64 st1.2), (16, .sl (.pair (.int .i64) (.pair (.int .i64) (.pair (.int .i64) .bool))) g.2), (17, .int .i64 (g.2.length : Int)), (18, .int .i64 0)] [(1, .box 24 [.int .i64 g.1, .sl (.pair (.int .i64) (.pair (.int .i64) (.pair (.int .i64) .bool))) g.2]), (8, .arr 4 .bool st1.1)] ?_
     refine AW.block ?_
     obtain ⟨rv15, hw11, ho12⟩ := Option.bind_eq_some_iff.1 h
     refine AW.loopO (linealref07_reached_b2 g) (fun st2 => ⟨fr [(1, .bp 1 0), (3, .own 8), (12, .int .i64 g.1), (13, .int .i64 st1.2), (16, .sl (.pair (.int .i64) (.pair (.int .i64) (.pair (.int .i64) .bool))) g.2), (17, .int .i64 (g.2.length : Int)), (18, .int .i64 st2.2)], hpGet [(1, .box 24 [.int .i64 g.1, .sl (.pair (.int .i64) (.pair (.int .i64) (.pair (.int .i64) .bool))) g.2]), (8, .arr 4 .bool st2.1)], gt⟩) (st1.1, 0) hw11 (zL [] [] []) ?_
     as_aux_lemma =>
      intro st2 x14 h hd13
      unfold linealref07_reached_b2 at h
      refine zo ?_
      refine zB [(1, .bp 1 0), (3, .own 8), (12, .int .i64 g.1), (13, .int .i64 st1.2), (16, .sl (.pair (.int .i64) (.pair (.int .i64) (.pair (.int .i64) .bool))) g.2), (17, .int .i64 (g.2.length : Int)), (18, .int .i64 st2.2), (19, .bool (decide (st2.2 < (g.2.length : Int))))] [(1, .box 24 [.int .i64 g.1, .sl (.pair (.int .i64) (.pair (.int .i64) (.pair (.int .i64) .bool))) g.2]), (8, .arr 4 .bool st2.1)] ?_
      refine AW.seq ?_
      refine zQ h (fun hb16 h => ?_) (fun hb16 h => ?_)
      ·refine zk ?_
       refine AW.seq ?_
       refine AW.block ?_
       refine zo ?_
       obtain ⟨c17, h⟩ := ck_some.1 h
       obtain ⟨c18, h⟩ := ck_some.1 h
       refine zB [(1, .bp 1 0), (3, .own 8), (5, .bp 5 0), (12, .int .i64 g.1), (13, .int .i64 st1.2), (16, .sl (.pair (.int .i64) (.pair (.int .i64) (.pair (.int .i64) .bool))) g.2), (17, .int .i64 (g.2.length : Int)), (18, .int .i64 st2.2)] [(1, .box 24 [.int .i64 g.1, .sl (.pair (.int .i64) (.pair (.int .i64) (.pair (.int .i64) .bool))) g.2]), (5, .box 61 [.int .i64 (g.2.getD st2.2.toNat (0, 0, 0, false)).1, .int .i64 (g.2.getD st2.2.toNat (0, 0, 0, false)).2.1, .int .i64 (g.2.getD st2.2.toNat (0, 0, 0, false)).2.2.1, .bool (g.2.getD st2.2.toNat (0, 0, 0, false)).2.2.2]), (8, .arr 4 .bool st2.1)] ?_
       refine AW.draw tab_ok mixed_ok [(16, [8])] [] (by decide) (lex_fast (by kernel_rfl)) ?_
       as_aux_lemma =>
        refine adops_cut 6 (fun K' hK19 => ?_)
        try dsimp only [List.drop_succ_cons, List.drop_zero, List.take_succ_cons, List.take_zero]
        simp only [go_sem, hb9, hb16]
        repeat with_reducible refine zN ?_
        refine hK19 _ ?_
        as_aux_lemma =>
         obtain ⟨c21, h⟩ := ck_some.1 h
         obtain ⟨c22, h⟩ := ck_some.1 h
         refine adops_cut 3 (fun K' hK20 => ?_)
         try dsimp only [List.drop_succ_cons, List.drop_zero, List.take_succ_cons, List.take_zero]
         simp only [go_sem, hb9, hb16]
         repeat with_reducible refine zN ?_
         refine hK20 _ ?_
         as_aux_lemma =>
          rcases zI h with ⟨hb23, h⟩ | ⟨hb23, h⟩
          ·simp only [hb23]
           as_aux_lemma =>
            refine adops_cut 4 (fun K' hK24 => ?_)
            try dsimp only [List.drop_succ_cons, List.drop_zero, List.take_succ_cons, List.take_zero]
            simp only [go_sem, hb9, hb16, hb23]
            repeat with_reducible refine zN ?_
            refine hK24 _ ?_
            as_aux_lemma =>
             obtain ⟨c26, h⟩ := ck_some.1 h
             obtain ⟨c27, h⟩ := ck_some.1 h
             refine adops_cut 4 (fun K' hK25 => ?_)
             try dsimp only [List.drop_succ_cons, List.drop_zero, List.take_succ_cons, List.take_zero]
             simp only [go_sem, hb9, hb16, hb23]
             repeat with_reducible refine zN ?_
             refine hK25 _ ?_
             refine adops_nil ?_
             refine ablock_n ?_
             refine athen_n ?_
             refine zV [(1, .bp 1 0), (3, .own 8), (12, .int .i64 g.1), (13, .int .i64 st1.2), (16, .sl (.pair (.int .i64) (.pair (.int .i64) (.pair (.int .i64) .bool))) g.2), (17, .int .i64 (g.2.length : Int)), (18, .int .i64 st2.2)] [(1, .box 24 [.int .i64 g.1, .sl (.pair (.int .i64) (.pair (.int .i64) (.pair (.int .i64) .bool))) g.2]), (8, .arr 4 .bool (st2.1.set (g.2.getD st2.2.toNat (0, 0, 0, false)).2.2.1.toNat true))] gt ?_
             as_aux_lemma =>
              refine AW.ops ?_
              obtain ⟨c28, h⟩ := ck_some.1 h
              refine zA [(1, .bp 1 0), (3, .own 8), (12, .int .i64 g.1), (13, .int .i64 st1.2), (16, .sl (.pair (.int .i64) (.pair (.int .i64) (.pair (.int .i64) .bool))) g.2), (17, .int .i64 (g.2.length : Int)), (18, .int .i64 (st2.2 + 1))] [(1, .box 24 [.int .i64 g.1, .sl (.pair (.int .i64) (.pair (.int .i64) (.pair (.int .i64) .bool))) g.2]), (8, .arr 4 .bool (st2.1.set (g.2.getD st2.2.toNat (0, 0, 0, false)).2.2.1.toNat true))] ?_
              obtain rfl := Option.some.inj h
              exact ⟨_, rfl, zL [] [] []⟩
          ·simp only [hb23]
           as_aux_lemma =>
            obtain ⟨c30, h⟩ := ck_some.1 h
            obtain ⟨c31, h⟩ := ck_some.1 h
            refine adops_cut 6 (fun K' hK29 => ?_)
            try dsimp only [List.drop_succ_cons, List.drop_zero, List.take_succ_cons, List.take_zero]
            simp only [go_sem, hb9, hb16, hb23]
            repeat with_reducible refine zN ?_
            refine hK29 _ ?_
            as_aux_lemma =>
             obtain ⟨c33, h⟩ := ck_some.1 h
             obtain ⟨c34, h⟩ := ck_some.1 h
             refine adops_cut 2 (fun K' hK32 => ?_)
             try dsimp only [List.drop_succ_cons, List.drop_zero, List.take_succ_cons, List.take_zero]
             simp only [go_sem, hb9, hb16, hb23]
             repeat with_reducible refine zN ?_
             refine hK32 _ ?_
             refine adops_nil ?_
             refine ablock_n ?_
             refine athen_n ?_
             refine zV [(1, .bp 1 0), (3, .own 8), (12, .int .i64 g.1), (13, .int .i64 st1.2), (16, .sl (.pair (.int .i64) (.pair (.int .i64) (.pair (.int .i64) .bool))) g.2), (17, .int .i64 (g.2.length : Int)), (18, .int .i64 st2.2)] [(1, .box 24 [.int .i64 g.1, .sl (.pair (.int .i64) (.pair (.int .i64) (.pair (.int .i64) .bool))) g.2]), (8, .arr 4 .bool (st2.1.set (g.2.getD st2.2.toNat (0, 0, 0, false)).2.2.1.toNat (st2.1.getD (g.2.getD st2.2.toNat (0, 0, 0, false)).1.toNat false)))] gt ?_
             as_aux_lemma =>
              refine AW.ops ?_
              obtain ⟨c35, h⟩ := ck_some.1 h
              refine zA [(1, .bp 1 0), (3, .own 8), (12, .int .i64 g.1), (13, .int .i64 st1.2), (16, .sl (.pair (.int .i64) (.pair (.int .i64) (.pair (.int .i64) .bool))) g.2), (17, .int .i64 (g.2.length : Int)), (18, .int .i64 (st2.2 + 1))] [(1, .box 24 [.int .i64 g.1, .sl (.pair (.int .i64) (.pair (.int .i64) (.pair (.int .i64) .bool))) g.2]), (8, .arr 4 .bool (st2.1.set (g.2.getD st2.2.toNat (0, 0, 0, false)).2.2.1.toNat (st2.1.getD (g.2.getD st2.2.toNat (0, 0, 0, false)).1.toNat false)))] ?_
              obtain rfl := Option.some.inj h
              exact ⟨_, rfl, zL [] [] []⟩
      ·refine AW.exit ?_
       refine athen_e ?_
       obtain rfl := Option.some.inj h
       rw [← hd13 _ rfl] at ho12
       have h := ho12
       refine athen_e ?_
       refine ablock_s ?_
       refine ablock_n ?_
       refine athen_n ?_
       exact AW.weaken (zL [] [] []) (hk_linealref07_reached_k2 _ h)
   ·refine AW.exit ?_
    refine athen_e ?_
    obtain rfl := Option.some.inj h
    rw [← hd6 _ rfl] at ho5
    have h := ho5
    refine athen_e ?_
    refine ablock_s ?_
    refine athen_n ?_
    exact AW.weaken (zL [] [] []) (hk_linealref07_reached_k1 _ h)

end Go.Proofs.Yteclokkdgmacpaa
