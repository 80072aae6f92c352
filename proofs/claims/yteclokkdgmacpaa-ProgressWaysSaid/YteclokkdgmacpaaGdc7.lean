/-
  Made by wip/tool/dc.py out of the print of the program: contracts.
-/
import Derived.Test.YteclokkdgmacpaaGrp
import Derived.Test.YteclokkdgmacpaaSh7
import Derived.Test.YteclokkdgmacpaaGdc1
import Derived.Test.YteclokkdgmacpaaGdc2
import Derived.Test.YteclokkdgmacpaaGdc3
namespace Go.Proofs.Yteclokkdgmacpaa
open Go.RowKit

set_option linter.unusedSimpArgs false
set_option linter.unusedVariables false
set_option linter.constructorNameAsVariable false

set_option maxRecDepth 100000
set_option maxHeartbeats 2000000

theorem hc_linealref07_IsPlace (g : Int × (List (Int × Int × Int × Bool))) (p : Int) {r : Bool} (h : linealref07_IsPlace g p = some r) : HC Try.prog 62 [] [.agg [.int .i64 g.1, .sl (.pair (.int .i64) (.pair (.int .i64) (.pair (.int .i64) .bool))) g.2], .int .i64 p] [] (.bool r) := by
 unfold linealref07_IsPlace at h
 refine zH Try.func62 [.tmp 4] 13 ?_
 refine zo ?_
 refine zB [(1, .int .i64 p), (2, .bp 2 0)] [(2, .box 24 [.int .i64 g.1, .sl (.pair (.int .i64) (.pair (.int .i64) (.pair (.int .i64) .bool))) g.2])] ?_
 refine zo ?_
 refine zS 3 [(1, .int .i64 p), (2, .bp 2 0), (7, .bool (decide (0 ≤ p)))] [(2, .box 24 [.int .i64 g.1, .sl (.pair (.int .i64) (.pair (.int .i64) (.pair (.int .i64) .bool))) g.2])] ?_
 rcases zI h with ⟨hb1, h⟩ | ⟨hb1, h⟩
 ·refine zS 5 [(12, .bool (decide (p < g.1)))] [] ?_
  refine zB [(4, .bool (decide (p < g.1)))] [] ?_
  refine AW.ret ?_
  obtain rfl := Option.some.inj h
  exact zR [] [] []
 ·refine zS 4 [(7, .bool false), (11, .cv (undef))] [] ?_
  refine zB [(4, .bool false)] [] ?_
  refine AW.ret ?_
  obtain rfl := Option.some.inj h
  exact zR [] [] []

theorem hc_linealref07_IsThread (t : Int) {r : Bool} (h : linealref07_IsThread t = some r) : HC Try.prog 63 [] [.int .i64 t] [] (.bool r) := by
 unfold linealref07_IsThread at h
 refine zH Try.func63 [.tmp 2] 9 ?_
 refine zo ?_
 refine zB [(0, .int .i64 t)] [] ?_
 refine zo ?_
 refine zS 3 [(0, .int .i64 t), (5, .bool (decide (0 ≤ t)))] [] ?_
 rcases zI h with ⟨hb1, h⟩ | ⟨hb1, h⟩
 ·refine zB [(2, .bool (decide (t < 3)))] [] ?_
  refine AW.ret ?_
  obtain rfl := Option.some.inj h
  exact zR [] [] []
 ·refine zB [(2, .bool false)] [] ?_
  refine AW.ret ?_
  obtain rfl := Option.some.inj h
  exact zR [] [] []

theorem hc_linealref07_Valid (g : Int × (List (Int × Int × Int × Bool))) {r : Bool} (h : linealref07_Valid g = some r) : HC Try.prog 21 [] [.agg [.int .i64 g.1, .sl (.pair (.int .i64) (.pair (.int .i64) (.pair (.int .i64) .bool))) g.2]] [] (.bool r) := by
 unfold linealref07_Valid at h
 refine zH Try.func21 [.tmp 2] 61 ?_
 refine zo ?_
 refine zB [(1, .bp 1 0)] [(1, .box 24 [.int .i64 g.1, .sl (.pair (.int .i64) (.pair (.int .i64) (.pair (.int .i64) .bool))) g.2])] ?_
 refine AW.seq ?_
 refine zo ?_
 refine zS 4 [(1, .bp 1 0), (10, .bool (decide (g.1 < 1)))] [(1, .box 24 [.int .i64 g.1, .sl (.pair (.int .i64) (.pair (.int .i64) (.pair (.int .i64) .bool))) g.2])] ?_
 rcases zI h with ⟨hb1, h⟩ | ⟨hb1, h⟩
 ·refine zS 5 [(1, .bp 1 0), (15, .bool true)] [(1, .box 24 [.int .i64 g.1, .sl (.pair (.int .i64) (.pair (.int .i64) (.pair (.int .i64) .bool))) g.2])] ?_
  refine zS 4 [(1, .bp 1 0), (15, .bool true), (19, .cv (undef))] [(1, .box 24 [.int .i64 g.1, .sl (.pair (.int .i64) (.pair (.int .i64) (.pair (.int .i64) .bool))) g.2])] ?_
  refine zB [(1, .bp 1 0), (20, .bool true)] [(1, .box 24 [.int .i64 g.1, .sl (.pair (.int .i64) (.pair (.int .i64) (.pair (.int .i64) .bool))) g.2])] ?_
  refine AW.cond (b := true) rfl (fun _ => ?_) (fun hb2 => by cases hb2)
  refine zo ?_
  refine zB [(2, .bool false)] [] ?_
  refine zr ?_
  obtain rfl := Option.some.inj h
  exact zR [] [] []
 ·refine zS 5 [(1, .bp 1 0), (15, .bool (decide (8 < g.1)))] [(1, .box 24 [.int .i64 g.1, .sl (.pair (.int .i64) (.pair (.int .i64) (.pair (.int .i64) .bool))) g.2])] ?_
  rcases zI h with ⟨hb3, h⟩ | ⟨hb3, h⟩
  ·refine zS 4 [(1, .bp 1 0), (15, .bool true), (19, .cv (undef))] [(1, .box 24 [.int .i64 g.1, .sl (.pair (.int .i64) (.pair (.int .i64) (.pair (.int .i64) .bool))) g.2])] ?_
   refine zB [(1, .bp 1 0), (20, .bool true)] [(1, .box 24 [.int .i64 g.1, .sl (.pair (.int .i64) (.pair (.int .i64) (.pair (.int .i64) .bool))) g.2])] ?_
   refine AW.cond (b := true) rfl (fun _ => ?_) (fun hb4 => by cases hb4)
   refine zo ?_
   refine zB [(2, .bool false)] [] ?_
   refine zr ?_
   obtain rfl := Option.some.inj h
   exact zR [] [] []
  ·refine zB [(1, .bp 1 0), (20, .bool (decide (20 < (g.2.length : Int))))] [(1, .box 24 [.int .i64 g.1, .sl (.pair (.int .i64) (.pair (.int .i64) (.pair (.int .i64) .bool))) g.2])] ?_
   refine zQ h (fun hb5 h => ?_) (fun hb5 h => ?_)
   ·refine zo ?_
    refine zB [(2, .bool false)] [] ?_
    refine zr ?_
    obtain rfl := Option.some.inj h
    exact zR [] [] []
   ·refine zk ?_
    refine AW.have1 (fun _ : Unit => linealref07_Valid_k1 = some r) (fun _ => ⟨fr [], hpGet [], gt⟩) (fun _ h => ?_) (fun hk_linealref07_Valid_k1 => ?_)
    ·as_aux_lemma =>
      unfold linealref07_Valid_k1 at h
      refine zo ?_
      refine zB [(2, .bool true)] [] ?_
      refine AW.ret ?_
      obtain rfl := Option.some.inj h
      exact zR [] [] []
    ·refine AW.seq ?_
     refine zo ?_
     refine zB [(1, .bp 1 0), (22, .sl (.pair (.int .i64) (.pair (.int .i64) (.pair (.int .i64) .bool))) g.2), (23, .int .i64 (g.2.length : Int)), (24, .int .i64 0)] [(1, .box 24 [.int .i64 g.1, .sl (.pair (.int .i64) (.pair (.int .i64) (.pair (.int .i64) .bool))) g.2])] ?_
     refine AW.block ?_
     obtain ⟨rv10, hw6, ho7⟩ := Option.bind_eq_some_iff.1 h
     refine AW.loopO (linealref07_Valid_b1 g) (fun st1 => ⟨fr [(1, .bp 1 0), (22, .sl (.pair (.int .i64) (.pair (.int .i64) (.pair (.int .i64) .bool))) g.2), (23, .int .i64 (g.2.length : Int)), (24, .int .i64 st1)], hpGet [(1, .box 24 [.int .i64 g.1, .sl (.pair (.int .i64) (.pair (.int .i64) (.pair (.int .i64) .bool))) g.2])], gt⟩) 0 hw6 (zL [] [] []) ?_
     as_aux_lemma =>
      intro st1 x9 h hd8
      unfold linealref07_Valid_b1 at h
      refine zo ?_
      refine zB [(1, .bp 1 0), (22, .sl (.pair (.int .i64) (.pair (.int .i64) (.pair (.int .i64) .bool))) g.2), (23, .int .i64 (g.2.length : Int)), (24, .int .i64 st1), (25, .bool (decide (st1 < (g.2.length : Int))))] [(1, .box 24 [.int .i64 g.1, .sl (.pair (.int .i64) (.pair (.int .i64) (.pair (.int .i64) .bool))) g.2])] ?_
      refine AW.seq ?_
      refine zQ h (fun hb11 h => ?_) (fun hb11 h => ?_)
      ·refine zk ?_
       refine AW.have1 (fun _ : Unit => linealref07_Valid_k2 st1 = some x9) (fun _ => ⟨fr [(1, .bp 1 0), (22, .sl (.pair (.int .i64) (.pair (.int .i64) (.pair (.int .i64) .bool))) g.2), (23, .int .i64 (g.2.length : Int)), (24, .int .i64 st1)], hpGet [(1, .box 24 [.int .i64 g.1, .sl (.pair (.int .i64) (.pair (.int .i64) (.pair (.int .i64) .bool))) g.2])], gt⟩) (fun _ h => ?_) (fun hk_linealref07_Valid_k2 => ?_)
       ·as_aux_lemma =>
         unfold linealref07_Valid_k2 at h
         refine AW.ops ?_
         obtain ⟨c12, h⟩ := ck_some.1 h
         refine zA [(1, .bp 1 0), (22, .sl (.pair (.int .i64) (.pair (.int .i64) (.pair (.int .i64) .bool))) g.2), (23, .int .i64 (g.2.length : Int)), (24, .int .i64 (st1 + 1))] [(1, .box 24 [.int .i64 g.1, .sl (.pair (.int .i64) (.pair (.int .i64) (.pair (.int .i64) .bool))) g.2])] ?_
         obtain rfl := Option.some.inj h
         exact ⟨_, rfl, zL [] [] []⟩
       ·refine AW.seq ?_
        refine AW.block ?_
        refine zo ?_
        obtain ⟨c13, h⟩ := ck_some.1 h
        obtain ⟨c14, h⟩ := ck_some.1 h
        refine zS 5 [(1, .bp 1 0), (3, .int .i64 st1), (4, .bp 4 0), (22, .sl (.pair (.int .i64) (.pair (.int .i64) (.pair (.int .i64) .bool))) g.2), (23, .int .i64 (g.2.length : Int)), (24, .int .i64 st1), (28, .agg [.int .i64 (g.2.getD st1.toNat (0, 0, 0, false)).1, .int .i64 (g.2.getD st1.toNat (0, 0, 0, false)).2.1, .int .i64 (g.2.getD st1.toNat (0, 0, 0, false)).2.2.1, .bool (g.2.getD st1.toNat (0, 0, 0, false)).2.2.2])] [(1, .box 24 [.int .i64 g.1, .sl (.pair (.int .i64) (.pair (.int .i64) (.pair (.int .i64) .bool))) g.2]), (4, .box 61 [.int .i64 0, .int .i64 0, .int .i64 0, .bool false])] ?_
        refine zB [(1, .bp 1 0), (3, .int .i64 st1), (4, .bp 4 0), (22, .sl (.pair (.int .i64) (.pair (.int .i64) (.pair (.int .i64) .bool))) g.2), (23, .int .i64 (g.2.length : Int)), (24, .int .i64 st1)] [(1, .box 24 [.int .i64 g.1, .sl (.pair (.int .i64) (.pair (.int .i64) (.pair (.int .i64) .bool))) g.2]), (4, .box 61 [.int .i64 (g.2.getD st1.toNat (0, 0, 0, false)).1, .int .i64 (g.2.getD st1.toNat (0, 0, 0, false)).2.1, .int .i64 (g.2.getD st1.toNat (0, 0, 0, false)).2.2.1, .bool (g.2.getD st1.toNat (0, 0, 0, false)).2.2.2])] ?_
        refine AW.seq ?_
        refine zo ?_
        refine zS 3 [(1, .bp 1 0), (3, .int .i64 st1), (4, .bp 4 0), (22, .sl (.pair (.int .i64) (.pair (.int .i64) (.pair (.int .i64) .bool))) g.2), (23, .int .i64 (g.2.length : Int)), (24, .int .i64 st1), (29, .agg [.int .i64 g.1, .sl (.pair (.int .i64) (.pair (.int .i64) (.pair (.int .i64) .bool))) g.2]), (31, .int .i64 (g.2.getD st1.toNat (0, 0, 0, false)).1)] [(1, .box 24 [.int .i64 g.1, .sl (.pair (.int .i64) (.pair (.int .i64) (.pair (.int .i64) .bool))) g.2]), (4, .box 61 [.int .i64 (g.2.getD st1.toNat (0, 0, 0, false)).1, .int .i64 (g.2.getD st1.toNat (0, 0, 0, false)).2.1, .int .i64 (g.2.getD st1.toNat (0, 0, 0, false)).2.2.1, .bool (g.2.getD st1.toNat (0, 0, 0, false)).2.2.2])] ?_
        obtain ⟨v0, hv15, h⟩ := Option.bind_eq_some_iff.1 h
        refine zC [] [] (hc_linealref07_IsPlace g (g.2.getD st1.toNat (0, 0, 0, false)).1 hv15) [(1, .bp 1 0), (3, .int .i64 st1), (4, .bp 4 0), (22, .sl (.pair (.int .i64) (.pair (.int .i64) (.pair (.int .i64) .bool))) g.2), (23, .int .i64 (g.2.length : Int)), (24, .int .i64 st1), (32, .bool v0)] [(1, .box 24 [.int .i64 g.1, .sl (.pair (.int .i64) (.pair (.int .i64) (.pair (.int .i64) .bool))) g.2]), (4, .box 61 [.int .i64 (g.2.getD st1.toNat (0, 0, 0, false)).1, .int .i64 (g.2.getD st1.toNat (0, 0, 0, false)).2.1, .int .i64 (g.2.getD st1.toNat (0, 0, 0, false)).2.2.1, .bool (g.2.getD st1.toNat (0, 0, 0, false)).2.2.2])] ?_
        refine zS 2 [(1, .bp 1 0), (3, .int .i64 st1), (4, .bp 4 0), (22, .sl (.pair (.int .i64) (.pair (.int .i64) (.pair (.int .i64) .bool))) g.2), (23, .int .i64 (g.2.length : Int)), (24, .int .i64 st1), (34, .bool (!v0))] [(1, .box 24 [.int .i64 g.1, .sl (.pair (.int .i64) (.pair (.int .i64) (.pair (.int .i64) .bool))) g.2]), (4, .box 61 [.int .i64 (g.2.getD st1.toNat (0, 0, 0, false)).1, .int .i64 (g.2.getD st1.toNat (0, 0, 0, false)).2.1, .int .i64 (g.2.getD st1.toNat (0, 0, 0, false)).2.2.1, .bool (g.2.getD st1.toNat (0, 0, 0, false)).2.2.2])] ?_
        rcases zI h with ⟨hb16, h⟩ | ⟨hb16, h⟩
        ·refine zS 4 [(1, .bp 1 0), (3, .int .i64 st1), (4, .bp 4 0), (22, .sl (.pair (.int .i64) (.pair (.int .i64) (.pair (.int .i64) .bool))) g.2), (23, .int .i64 (g.2.length : Int)), (24, .int .i64 st1), (34, .bool true), (38, .cv (undef))] [(1, .box 24 [.int .i64 g.1, .sl (.pair (.int .i64) (.pair (.int .i64) (.pair (.int .i64) .bool))) g.2]), (4, .box 61 [.int .i64 (g.2.getD st1.toNat (0, 0, 0, false)).1, .int .i64 (g.2.getD st1.toNat (0, 0, 0, false)).2.1, .int .i64 (g.2.getD st1.toNat (0, 0, 0, false)).2.2.1, .bool (g.2.getD st1.toNat (0, 0, 0, false)).2.2.2])] ?_
         refine zS 5 [(1, .bp 1 0), (3, .int .i64 st1), (4, .bp 4 0), (22, .sl (.pair (.int .i64) (.pair (.int .i64) (.pair (.int .i64) .bool))) g.2), (23, .int .i64 (g.2.length : Int)), (24, .int .i64 st1), (41, .bool true), (43, .cv (undef))] [(1, .box 24 [.int .i64 g.1, .sl (.pair (.int .i64) (.pair (.int .i64) (.pair (.int .i64) .bool))) g.2]), (4, .box 61 [.int .i64 (g.2.getD st1.toNat (0, 0, 0, false)).1, .int .i64 (g.2.getD st1.toNat (0, 0, 0, false)).2.1, .int .i64 (g.2.getD st1.toNat (0, 0, 0, false)).2.2.1, .bool (g.2.getD st1.toNat (0, 0, 0, false)).2.2.2])] ?_
         refine zB [(1, .bp 1 0), (3, .int .i64 st1), (4, .bp 4 0), (22, .sl (.pair (.int .i64) (.pair (.int .i64) (.pair (.int .i64) .bool))) g.2), (23, .int .i64 (g.2.length : Int)), (24, .int .i64 st1), (46, .bool true)] [(1, .box 24 [.int .i64 g.1, .sl (.pair (.int .i64) (.pair (.int .i64) (.pair (.int .i64) .bool))) g.2]), (4, .box 61 [.int .i64 (g.2.getD st1.toNat (0, 0, 0, false)).1, .int .i64 (g.2.getD st1.toNat (0, 0, 0, false)).2.1, .int .i64 (g.2.getD st1.toNat (0, 0, 0, false)).2.2.1, .bool (g.2.getD st1.toNat (0, 0, 0, false)).2.2.2])] ?_
         refine AW.cond (b := true) rfl (fun _ => ?_) (fun hb17 => by cases hb17)
         refine zo ?_
         refine zB [(2, .bool false)] [] ?_
         refine zr ?_
         refine ablock_r ?_
         refine athen_r ?_
         obtain rfl := Option.some.inj h
         rw [← hd8 _ rfl] at ho7
         have h := ho7
         try simp only at h
         refine athen_r ?_
         refine ablock_r ?_
         refine athen_r ?_
         obtain rfl := Option.some.inj h
         exact zR [] [] []
        ·refine zS 3 [(1, .bp 1 0), (3, .int .i64 st1), (4, .bp 4 0), (22, .sl (.pair (.int .i64) (.pair (.int .i64) (.pair (.int .i64) .bool))) g.2), (23, .int .i64 (g.2.length : Int)), (24, .int .i64 st1), (34, .bool false), (35, .agg [.int .i64 g.1, .sl (.pair (.int .i64) (.pair (.int .i64) (.pair (.int .i64) .bool))) g.2]), (37, .int .i64 (g.2.getD st1.toNat (0, 0, 0, false)).2.2.1)] [(1, .box 24 [.int .i64 g.1, .sl (.pair (.int .i64) (.pair (.int .i64) (.pair (.int .i64) .bool))) g.2]), (4, .box 61 [.int .i64 (g.2.getD st1.toNat (0, 0, 0, false)).1, .int .i64 (g.2.getD st1.toNat (0, 0, 0, false)).2.1, .int .i64 (g.2.getD st1.toNat (0, 0, 0, false)).2.2.1, .bool (g.2.getD st1.toNat (0, 0, 0, false)).2.2.2])] ?_
         obtain ⟨v0_2, hv18, h⟩ := Option.bind_eq_some_iff.1 h
         refine zG [] [] (hc_linealref07_IsPlace g (g.2.getD st1.toNat (0, 0, 0, false)).2.2.1 hv18) [(1, .bp 1 0), (3, .int .i64 st1), (4, .bp 4 0), (22, .sl (.pair (.int .i64) (.pair (.int .i64) (.pair (.int .i64) .bool))) g.2), (23, .int .i64 (g.2.length : Int)), (24, .int .i64 st1), (34, .bool false), (38, .bool v0_2)] [(1, .box 24 [.int .i64 g.1, .sl (.pair (.int .i64) (.pair (.int .i64) (.pair (.int .i64) .bool))) g.2]), (4, .box 61 [.int .i64 (g.2.getD st1.toNat (0, 0, 0, false)).1, .int .i64 (g.2.getD st1.toNat (0, 0, 0, false)).2.1, .int .i64 (g.2.getD st1.toNat (0, 0, 0, false)).2.2.1, .bool (g.2.getD st1.toNat (0, 0, 0, false)).2.2.2])] ?_
         refine zS 3 [(1, .bp 1 0), (3, .int .i64 st1), (4, .bp 4 0), (22, .sl (.pair (.int .i64) (.pair (.int .i64) (.pair (.int .i64) .bool))) g.2), (23, .int .i64 (g.2.length : Int)), (24, .int .i64 st1), (41, .bool (!v0_2))] [(1, .box 24 [.int .i64 g.1, .sl (.pair (.int .i64) (.pair (.int .i64) (.pair (.int .i64) .bool))) g.2]), (4, .box 61 [.int .i64 (g.2.getD st1.toNat (0, 0, 0, false)).1, .int .i64 (g.2.getD st1.toNat (0, 0, 0, false)).2.1, .int .i64 (g.2.getD st1.toNat (0, 0, 0, false)).2.2.1, .bool (g.2.getD st1.toNat (0, 0, 0, false)).2.2.2])] ?_
         rcases zI h with ⟨hb19, h⟩ | ⟨hb19, h⟩
         ·refine zS 4 [(1, .bp 1 0), (3, .int .i64 st1), (4, .bp 4 0), (22, .sl (.pair (.int .i64) (.pair (.int .i64) (.pair (.int .i64) .bool))) g.2), (23, .int .i64 (g.2.length : Int)), (24, .int .i64 st1), (41, .bool true), (45, .cv (undef))] [(1, .box 24 [.int .i64 g.1, .sl (.pair (.int .i64) (.pair (.int .i64) (.pair (.int .i64) .bool))) g.2]), (4, .box 61 [.int .i64 (g.2.getD st1.toNat (0, 0, 0, false)).1, .int .i64 (g.2.getD st1.toNat (0, 0, 0, false)).2.1, .int .i64 (g.2.getD st1.toNat (0, 0, 0, false)).2.2.1, .bool (g.2.getD st1.toNat (0, 0, 0, false)).2.2.2])] ?_
          refine zB [(1, .bp 1 0), (3, .int .i64 st1), (4, .bp 4 0), (22, .sl (.pair (.int .i64) (.pair (.int .i64) (.pair (.int .i64) .bool))) g.2), (23, .int .i64 (g.2.length : Int)), (24, .int .i64 st1), (46, .bool true)] [(1, .box 24 [.int .i64 g.1, .sl (.pair (.int .i64) (.pair (.int .i64) (.pair (.int .i64) .bool))) g.2]), (4, .box 61 [.int .i64 (g.2.getD st1.toNat (0, 0, 0, false)).1, .int .i64 (g.2.getD st1.toNat (0, 0, 0, false)).2.1, .int .i64 (g.2.getD st1.toNat (0, 0, 0, false)).2.2.1, .bool (g.2.getD st1.toNat (0, 0, 0, false)).2.2.2])] ?_
          refine AW.cond (b := true) rfl (fun _ => ?_) (fun hb20 => by cases hb20)
          refine zo ?_
          refine zB [(2, .bool false)] [] ?_
          refine zr ?_
          refine ablock_r ?_
          refine athen_r ?_
          obtain rfl := Option.some.inj h
          rw [← hd8 _ rfl] at ho7
          have h := ho7
          try simp only at h
          refine athen_r ?_
          refine ablock_r ?_
          refine athen_r ?_
          obtain rfl := Option.some.inj h
          exact zR [] [] []
         ·refine zS 2 [(1, .bp 1 0), (3, .int .i64 st1), (4, .bp 4 0), (22, .sl (.pair (.int .i64) (.pair (.int .i64) (.pair (.int .i64) .bool))) g.2), (23, .int .i64 (g.2.length : Int)), (24, .int .i64 st1), (41, .bool false), (43, .int .i64 (g.2.getD st1.toNat (0, 0, 0, false)).2.1)] [(1, .box 24 [.int .i64 g.1, .sl (.pair (.int .i64) (.pair (.int .i64) (.pair (.int .i64) .bool))) g.2]), (4, .box 61 [.int .i64 (g.2.getD st1.toNat (0, 0, 0, false)).1, .int .i64 (g.2.getD st1.toNat (0, 0, 0, false)).2.1, .int .i64 (g.2.getD st1.toNat (0, 0, 0, false)).2.2.1, .bool (g.2.getD st1.toNat (0, 0, 0, false)).2.2.2])] ?_
          obtain ⟨v0_3, hv21, h⟩ := Option.bind_eq_some_iff.1 h
          refine zG [] [] (hc_linealref07_IsThread (g.2.getD st1.toNat (0, 0, 0, false)).2.1 hv21) [(1, .bp 1 0), (3, .int .i64 st1), (4, .bp 4 0), (22, .sl (.pair (.int .i64) (.pair (.int .i64) (.pair (.int .i64) .bool))) g.2), (23, .int .i64 (g.2.length : Int)), (24, .int .i64 st1), (41, .bool false), (44, .bool v0_3)] [(1, .box 24 [.int .i64 g.1, .sl (.pair (.int .i64) (.pair (.int .i64) (.pair (.int .i64) .bool))) g.2]), (4, .box 61 [.int .i64 (g.2.getD st1.toNat (0, 0, 0, false)).1, .int .i64 (g.2.getD st1.toNat (0, 0, 0, false)).2.1, .int .i64 (g.2.getD st1.toNat (0, 0, 0, false)).2.2.1, .bool (g.2.getD st1.toNat (0, 0, 0, false)).2.2.2])] ?_
          refine zB [(1, .bp 1 0), (3, .int .i64 st1), (4, .bp 4 0), (22, .sl (.pair (.int .i64) (.pair (.int .i64) (.pair (.int .i64) .bool))) g.2), (23, .int .i64 (g.2.length : Int)), (24, .int .i64 st1), (46, .bool (!v0_3))] [(1, .box 24 [.int .i64 g.1, .sl (.pair (.int .i64) (.pair (.int .i64) (.pair (.int .i64) .bool))) g.2]), (4, .box 61 [.int .i64 (g.2.getD st1.toNat (0, 0, 0, false)).1, .int .i64 (g.2.getD st1.toNat (0, 0, 0, false)).2.1, .int .i64 (g.2.getD st1.toNat (0, 0, 0, false)).2.2.1, .bool (g.2.getD st1.toNat (0, 0, 0, false)).2.2.2])] ?_
          refine zQ h (fun hb22 h => ?_) (fun hb22 h => ?_)
          ·refine zo ?_
           refine zB [(2, .bool false)] [] ?_
           refine zr ?_
           refine ablock_r ?_
           refine athen_r ?_
           obtain rfl := Option.some.inj h
           rw [← hd8 _ rfl] at ho7
           have h := ho7
           try simp only at h
           refine athen_r ?_
           refine ablock_r ?_
           refine athen_r ?_
           obtain rfl := Option.some.inj h
           exact zR [] [] []
          ·refine zk ?_
           refine zo ?_
           obtain ⟨c23, h⟩ := ck_some.1 h
           obtain ⟨c24, h⟩ := ck_some.1 h
           refine zS 5 [(1, .bp 1 0), (4, .bp 4 0), (22, .sl (.pair (.int .i64) (.pair (.int .i64) (.pair (.int .i64) .bool))) g.2), (23, .int .i64 (g.2.length : Int)), (24, .int .i64 st1), (50, .sl (.pair (.int .i64) (.pair (.int .i64) (.pair (.int .i64) .bool))) (g.2.take st1.toNat)), (51, .int .i64 ((g.2.take st1.toNat).length : Int))] [(1, .box 24 [.int .i64 g.1, .sl (.pair (.int .i64) (.pair (.int .i64) (.pair (.int .i64) .bool))) g.2]), (4, .box 61 [.int .i64 (g.2.getD st1.toNat (0, 0, 0, false)).1, .int .i64 (g.2.getD st1.toNat (0, 0, 0, false)).2.1, .int .i64 (g.2.getD st1.toNat (0, 0, 0, false)).2.2.1, .bool (g.2.getD st1.toNat (0, 0, 0, false)).2.2.2])] ?_
           refine zB [(1, .bp 1 0), (4, .bp 4 0), (22, .sl (.pair (.int .i64) (.pair (.int .i64) (.pair (.int .i64) .bool))) g.2), (23, .int .i64 (g.2.length : Int)), (24, .int .i64 st1), (50, .sl (.pair (.int .i64) (.pair (.int .i64) (.pair (.int .i64) .bool))) (g.2.take st1.toNat)), (51, .int .i64 ((g.2.take st1.toNat).length : Int)), (52, .int .i64 0)] [(1, .box 24 [.int .i64 g.1, .sl (.pair (.int .i64) (.pair (.int .i64) (.pair (.int .i64) .bool))) g.2]), (4, .box 61 [.int .i64 (g.2.getD st1.toNat (0, 0, 0, false)).1, .int .i64 (g.2.getD st1.toNat (0, 0, 0, false)).2.1, .int .i64 (g.2.getD st1.toNat (0, 0, 0, false)).2.2.1, .bool (g.2.getD st1.toNat (0, 0, 0, false)).2.2.2])] ?_
           refine AW.block ?_
           obtain ⟨rv29, hw25, ho26⟩ := Option.bind_eq_some_iff.1 h
           refine AW.loopO (linealref07_Valid_b2 g st1) (fun st2 => ⟨fr [(1, .bp 1 0), (4, .bp 4 0), (22, .sl (.pair (.int .i64) (.pair (.int .i64) (.pair (.int .i64) .bool))) g.2), (23, .int .i64 (g.2.length : Int)), (24, .int .i64 st1), (50, .sl (.pair (.int .i64) (.pair (.int .i64) (.pair (.int .i64) .bool))) (g.2.take st1.toNat)), (51, .int .i64 ((g.2.take st1.toNat).length : Int)), (52, .int .i64 st2)], hpGet [(1, .box 24 [.int .i64 g.1, .sl (.pair (.int .i64) (.pair (.int .i64) (.pair (.int .i64) .bool))) g.2]), (4, .box 61 [.int .i64 (g.2.getD st1.toNat (0, 0, 0, false)).1, .int .i64 (g.2.getD st1.toNat (0, 0, 0, false)).2.1, .int .i64 (g.2.getD st1.toNat (0, 0, 0, false)).2.2.1, .bool (g.2.getD st1.toNat (0, 0, 0, false)).2.2.2])], gt⟩) 0 hw25 (zL [] [] []) ?_
           as_aux_lemma =>
            intro st2 x28 h hd27
            unfold linealref07_Valid_b2 at h
            refine zo ?_
            refine zB [(1, .bp 1 0), (4, .bp 4 0), (22, .sl (.pair (.int .i64) (.pair (.int .i64) (.pair (.int .i64) .bool))) g.2), (23, .int .i64 (g.2.length : Int)), (24, .int .i64 st1), (50, .sl (.pair (.int .i64) (.pair (.int .i64) (.pair (.int .i64) .bool))) (g.2.take st1.toNat)), (51, .int .i64 ((g.2.take st1.toNat).length : Int)), (52, .int .i64 st2), (53, .bool (decide (st2 < ((g.2.take st1.toNat).length : Int))))] [(1, .box 24 [.int .i64 g.1, .sl (.pair (.int .i64) (.pair (.int .i64) (.pair (.int .i64) .bool))) g.2]), (4, .box 61 [.int .i64 (g.2.getD st1.toNat (0, 0, 0, false)).1, .int .i64 (g.2.getD st1.toNat (0, 0, 0, false)).2.1, .int .i64 (g.2.getD st1.toNat (0, 0, 0, false)).2.2.1, .bool (g.2.getD st1.toNat (0, 0, 0, false)).2.2.2])] ?_
            refine AW.seq ?_
            refine zQ h (fun hb30 h => ?_) (fun hb30 h => ?_)
            ·refine zk ?_
             refine AW.seq ?_
             refine AW.block ?_
             refine zo ?_
             obtain ⟨c31, h⟩ := ck_some.1 h
             obtain ⟨c32, h⟩ := ck_some.1 h
             refine zB [(1, .bp 1 0), (4, .bp 4 0), (6, .bp 6 0), (22, .sl (.pair (.int .i64) (.pair (.int .i64) (.pair (.int .i64) .bool))) g.2), (23, .int .i64 (g.2.length : Int)), (24, .int .i64 st1), (50, .sl (.pair (.int .i64) (.pair (.int .i64) (.pair (.int .i64) .bool))) (g.2.take st1.toNat)), (51, .int .i64 ((g.2.take st1.toNat).length : Int)), (52, .int .i64 st2)] [(1, .box 24 [.int .i64 g.1, .sl (.pair (.int .i64) (.pair (.int .i64) (.pair (.int .i64) .bool))) g.2]), (4, .box 61 [.int .i64 (g.2.getD st1.toNat (0, 0, 0, false)).1, .int .i64 (g.2.getD st1.toNat (0, 0, 0, false)).2.1, .int .i64 (g.2.getD st1.toNat (0, 0, 0, false)).2.2.1, .bool (g.2.getD st1.toNat (0, 0, 0, false)).2.2.2]), (6, .box 61 [.int .i64 ((g.2.take st1.toNat).getD st2.toNat (0, 0, 0, false)).1, .int .i64 ((g.2.take st1.toNat).getD st2.toNat (0, 0, 0, false)).2.1, .int .i64 ((g.2.take st1.toNat).getD st2.toNat (0, 0, 0, false)).2.2.1, .bool ((g.2.take st1.toNat).getD st2.toNat (0, 0, 0, false)).2.2.2])] ?_
             refine zo ?_
             refine zS 2 [(1, .bp 1 0), (4, .bp 4 0), (22, .sl (.pair (.int .i64) (.pair (.int .i64) (.pair (.int .i64) .bool))) g.2), (23, .int .i64 (g.2.length : Int)), (24, .int .i64 st1), (50, .sl (.pair (.int .i64) (.pair (.int .i64) (.pair (.int .i64) .bool))) (g.2.take st1.toNat)), (51, .int .i64 ((g.2.take st1.toNat).length : Int)), (52, .int .i64 st2), (56, .agg [.int .i64 (g.2.getD st1.toNat (0, 0, 0, false)).1, .int .i64 (g.2.getD st1.toNat (0, 0, 0, false)).2.1, .int .i64 (g.2.getD st1.toNat (0, 0, 0, false)).2.2.1, .bool (g.2.getD st1.toNat (0, 0, 0, false)).2.2.2]), (57, .agg [.int .i64 ((g.2.take st1.toNat).getD st2.toNat (0, 0, 0, false)).1, .int .i64 ((g.2.take st1.toNat).getD st2.toNat (0, 0, 0, false)).2.1, .int .i64 ((g.2.take st1.toNat).getD st2.toNat (0, 0, 0, false)).2.2.1, .bool ((g.2.take st1.toNat).getD st2.toNat (0, 0, 0, false)).2.2.2])] [(1, .box 24 [.int .i64 g.1, .sl (.pair (.int .i64) (.pair (.int .i64) (.pair (.int .i64) .bool))) g.2]), (4, .box 61 [.int .i64 (g.2.getD st1.toNat (0, 0, 0, false)).1, .int .i64 (g.2.getD st1.toNat (0, 0, 0, false)).2.1, .int .i64 (g.2.getD st1.toNat (0, 0, 0, false)).2.2.1, .bool (g.2.getD st1.toNat (0, 0, 0, false)).2.2.2])] ?_
             obtain ⟨c33, h⟩ := ck_some.1 h
             obtain ⟨c34, h⟩ := ck_some.1 h
             obtain ⟨c35, h⟩ := ck_some.1 h
             obtain ⟨c36, h⟩ := ck_some.1 h
             obtain ⟨c37, h⟩ := ck_some.1 h
             obtain ⟨c38, h⟩ := ck_some.1 h
             refine AO.aggEq (neg := false) eqty_61 (by decide) rfl rfl (lx := [.int .i64 (g.2.getD st1.toNat (0, 0, 0, false)).1, .int .i64 (g.2.getD st1.toNat (0, 0, 0, false)).2.1, .int .i64 (g.2.getD st1.toNat (0, 0, 0, false)).2.2.1, .bool (g.2.getD st1.toNat (0, 0, 0, false)).2.2.2]) (ly := [.int .i64 ((g.2.take st1.toNat).getD st2.toNat (0, 0, 0, false)).1, .int .i64 ((g.2.take st1.toNat).getD st2.toNat (0, 0, 0, false)).2.1, .int .i64 ((g.2.take st1.toNat).getD st2.toNat (0, 0, 0, false)).2.2.1, .bool ((g.2.take st1.toNat).getD st2.toNat (0, 0, 0, false)).2.2.2]) (by first | rfl | (simp only [go_sem, hb1, hb3, hb5, hb11, hb16, hb19, hb22, hb30]) <;> (with_reducible and_intros) <;> first | assumption | rfl | omega | (unfold maxLen; omega)) (by first | rfl | (simp only [go_sem, hb1, hb3, hb5, hb11, hb16, hb19, hb22, hb30]) <;> (with_reducible and_intros) <;> first | assumption | rfl | omega | (unfold maxLen; omega)) (by first | rfl | (simp only [go_sem, hb1, hb3, hb5, hb11, hb16, hb19, hb22, hb30]) <;> (with_reducible and_intros) <;> first | assumption | rfl | omega | (unfold maxLen; omega)) (by first | rfl | (simp only [go_sem, hb1, hb3, hb5, hb11, hb16, hb19, hb22, hb30]) <;> (with_reducible and_intros) <;> first | assumption | rfl | omega | (unfold maxLen; omega)) (by first | assumption | omega | (simp only [go_sem, hb1, hb3, hb5, hb11, hb16, hb19, hb22, hb30]) <;> (with_reducible and_intros) <;> first | assumption | rfl | omega | (unfold maxLen; omega)) (by first | assumption | omega | (simp only [go_sem, hb1, hb3, hb5, hb11, hb16, hb19, hb22, hb30]) <;> (with_reducible and_intros) <;> first | assumption | rfl | omega | (unfold maxLen; omega)) ?_
             refine zT [(1, .bp 1 0), (4, .bp 4 0), (22, .sl (.pair (.int .i64) (.pair (.int .i64) (.pair (.int .i64) .bool))) g.2), (23, .int .i64 (g.2.length : Int)), (24, .int .i64 st1), (50, .sl (.pair (.int .i64) (.pair (.int .i64) (.pair (.int .i64) .bool))) (g.2.take st1.toNat)), (51, .int .i64 ((g.2.take st1.toNat).length : Int)), (52, .int .i64 st2), (58, .bool (decide ((g.2.getD st1.toNat (0, 0, 0, false)) = ((g.2.take st1.toNat).getD st2.toNat (0, 0, 0, false)))))] [(1, .box 24 [.int .i64 g.1, .sl (.pair (.int .i64) (.pair (.int .i64) (.pair (.int .i64) .bool))) g.2]), (4, .box 61 [.int .i64 (g.2.getD st1.toNat (0, 0, 0, false)).1, .int .i64 (g.2.getD st1.toNat (0, 0, 0, false)).2.1, .int .i64 (g.2.getD st1.toNat (0, 0, 0, false)).2.2.1, .bool (g.2.getD st1.toNat (0, 0, 0, false)).2.2.2])] gt ?_
             refine zB [(1, .bp 1 0), (4, .bp 4 0), (22, .sl (.pair (.int .i64) (.pair (.int .i64) (.pair (.int .i64) .bool))) g.2), (23, .int .i64 (g.2.length : Int)), (24, .int .i64 st1), (50, .sl (.pair (.int .i64) (.pair (.int .i64) (.pair (.int .i64) .bool))) (g.2.take st1.toNat)), (51, .int .i64 ((g.2.take st1.toNat).length : Int)), (52, .int .i64 st2), (58, .bool (decide ((g.2.getD st1.toNat (0, 0, 0, false)) = ((g.2.take st1.toNat).getD st2.toNat (0, 0, 0, false)))))] [(1, .box 24 [.int .i64 g.1, .sl (.pair (.int .i64) (.pair (.int .i64) (.pair (.int .i64) .bool))) g.2]), (4, .box 61 [.int .i64 (g.2.getD st1.toNat (0, 0, 0, false)).1, .int .i64 (g.2.getD st1.toNat (0, 0, 0, false)).2.1, .int .i64 (g.2.getD st1.toNat (0, 0, 0, false)).2.2.1, .bool (g.2.getD st1.toNat (0, 0, 0, false)).2.2.2])] ?_
             refine zQ h (fun hb39 h => ?_) (fun hb39 h => ?_)
             ·refine zo ?_
              refine zB [(2, .bool false)] [] ?_
              refine AW.ret ?_
              refine ablock_r ?_
              refine athen_r ?_
              obtain rfl := Option.some.inj h
              rw [← hd27 _ rfl] at ho26
              have h := ho26
              try simp only at h
              refine athen_r ?_
              refine ablock_r ?_
              refine ablock_r ?_
              refine athen_r ?_
              obtain rfl := Option.some.inj h
              rw [← hd8 _ rfl] at ho7
              have h := ho7
              try simp only at h
              refine athen_r ?_
              refine ablock_r ?_
              refine athen_r ?_
              obtain rfl := Option.some.inj h
              exact zR [] [] []
             ·refine zm ?_
              refine athen_n ?_
              refine AW.ops ?_
              obtain ⟨c40, h⟩ := ck_some.1 h
              refine zA [(1, .bp 1 0), (4, .bp 4 0), (22, .sl (.pair (.int .i64) (.pair (.int .i64) (.pair (.int .i64) .bool))) g.2), (23, .int .i64 (g.2.length : Int)), (24, .int .i64 st1), (50, .sl (.pair (.int .i64) (.pair (.int .i64) (.pair (.int .i64) .bool))) (g.2.take st1.toNat)), (51, .int .i64 ((g.2.take st1.toNat).length : Int)), (52, .int .i64 (st2 + 1))] [(1, .box 24 [.int .i64 g.1, .sl (.pair (.int .i64) (.pair (.int .i64) (.pair (.int .i64) .bool))) g.2]), (4, .box 61 [.int .i64 (g.2.getD st1.toNat (0, 0, 0, false)).1, .int .i64 (g.2.getD st1.toNat (0, 0, 0, false)).2.1, .int .i64 (g.2.getD st1.toNat (0, 0, 0, false)).2.2.1, .bool (g.2.getD st1.toNat (0, 0, 0, false)).2.2.2])] ?_
              obtain rfl := Option.some.inj h
              exact ⟨_, rfl, zL [] [] []⟩
            ·refine AW.exit ?_
             refine athen_e ?_
             obtain rfl := Option.some.inj h
             rw [← hd27 _ rfl] at ho26
             have h := ho26
             try simp only at h
             refine athen_e ?_
             refine ablock_s ?_
             refine ablock_n ?_
             refine athen_n ?_
             exact AW.weaken (zL [] [] []) (hk_linealref07_Valid_k2 () h)
      ·refine AW.exit ?_
       refine athen_e ?_
       obtain rfl := Option.some.inj h
       rw [← hd8 _ rfl] at ho7
       have h := ho7
       try simp only at h
       refine athen_e ?_
       refine ablock_s ?_
       refine athen_n ?_
       exact AW.weaken (zL [] [] []) (hk_linealref07_Valid_k1 () h)

theorem hc_linealref07_IsMove (g : Int × (List (Int × Int × Int × Bool))) (i : Int) {r : Bool} (h : linealref07_IsMove g i = some r) : HC Try.prog 83 [] [.agg [.int .i64 g.1, .sl (.pair (.int .i64) (.pair (.int .i64) (.pair (.int .i64) .bool))) g.2], .int .i64 i] [] (.bool r) := by
 unfold linealref07_IsMove at h
 refine zH Try.func83 [.tmp 4] 14 ?_
 refine zo ?_
 refine zB [(1, .int .i64 i), (2, .bp 2 0)] [(2, .box 24 [.int .i64 g.1, .sl (.pair (.int .i64) (.pair (.int .i64) (.pair (.int .i64) .bool))) g.2])] ?_
 refine zo ?_
 refine zS 3 [(1, .int .i64 i), (2, .bp 2 0), (7, .bool (decide (0 ≤ i)))] [(2, .box 24 [.int .i64 g.1, .sl (.pair (.int .i64) (.pair (.int .i64) (.pair (.int .i64) .bool))) g.2])] ?_
 rcases zI h with ⟨hb1, h⟩ | ⟨hb1, h⟩
 ·refine zS 5 [(7, .bool true), (12, .bool (decide (i < (g.2.length : Int))))] [] ?_
  refine zB [(4, .bool (decide (i < (g.2.length : Int))))] [] ?_
  refine AW.ret ?_
  obtain rfl := Option.some.inj h
  exact zR [] [] []
 ·refine zS 4 [(7, .bool false), (8, .cv (undef)), (11, .cv (undef))] [] ?_
  refine zB [(4, .bool false)] [] ?_
  refine AW.ret ?_
  obtain rfl := Option.some.inj h
  exact zR [] [] []

theorem hc_progress_Reached (g : Int × (List (Int × Int × Int × Bool))) {r : (List Int) × Int} (h : progress_Reached g = some r) : HC Try.prog 22 [] [.agg [.int .i64 g.1, .sl (.pair (.int .i64) (.pair (.int .i64) (.pair (.int .i64) .bool))) g.2]] [(2000, .arr 3 (.int .i64) r.1)] (.tup [.own 2000, .int .i64 r.2]) := by
 unfold progress_Reached at h
 refine zH Try.func22 [.tmp 2, .tmp 3] 16 ?_
 refine zo ?_
 refine zB [(1, .bp 1 0)] [(1, .box 24 [.int .i64 g.1, .sl (.pair (.int .i64) (.pair (.int .i64) (.pair (.int .i64) .bool))) g.2])] ?_
 refine zo ?_
 refine zS 1 [(7, .agg [.int .i64 g.1, .sl (.pair (.int .i64) (.pair (.int .i64) (.pair (.int .i64) .bool))) g.2])] [] ?_
 obtain ⟨v0, hv1, h⟩ := Option.bind_eq_some_iff.1 h
 refine zC [] [] (hc_progress_graphOf g hv1) [(8, .tup [.agg [.int .i64 v0.1, .sl (.pair (.int .i64) (.pair (.int .i64) (.pair (.int .i64) .bool))) v0.2.1], .int .i64 v0.2.2])] [] ?_
 refine zS 5 [(4, .bp 4 0), (10, .int .i64 v0.2.2)] [(4, .box 69 [.int .i64 v0.1, .sl (.pair (.int .i64) (.pair (.int .i64) (.pair (.int .i64) .bool))) v0.2.1])] ?_
 refine zB [(4, .bp 4 0), (5, .int .i64 v0.2.2)] [(4, .box 69 [.int .i64 v0.1, .sl (.pair (.int .i64) (.pair (.int .i64) (.pair (.int .i64) .bool))) v0.2.1])] ?_
 refine AW.seq ?_
 refine zo ?_
 refine zB [(4, .bp 4 0), (5, .int .i64 v0.2.2), (12, .bool (!(decide (v0.2.2 = 0))))] [(4, .box 69 [.int .i64 v0.1, .sl (.pair (.int .i64) (.pair (.int .i64) (.pair (.int .i64) .bool))) v0.2.1])] ?_
 refine zQ h (fun hb2 h => ?_) (fun hb2 h => ?_)
 ·refine zo ?_
  refine zB [(2, .cv (.slice none 0 0)), (3, .int .i64 v0.2.2)] [] ?_
  refine zr ?_
  obtain rfl := Option.some.inj h
  exact zR [] [2000] []
 ·refine zk ?_
  refine zo ?_
  refine zS 1 [(14, .agg [.int .i64 v0.1, .sl (.pair (.int .i64) (.pair (.int .i64) (.pair (.int .i64) .bool))) v0.2.1])] [] ?_
  obtain ⟨v0_2, hv3, h⟩ := Option.bind_eq_some_iff.1 h
  refine zC [] [] (hc_progress_graph_reached (v0.1, v0.2.1) hv3) [(15, .own 25000)] [(25000, .arr 3 (.int .i64) v0_2)] ?_
  refine zB [(2, .own 25000), (3, .int .i64 0)] [(25000, .arr 3 (.int .i64) v0_2)] ?_
  refine AW.ret ?_
  obtain rfl := Option.some.inj h
  exact zR [] [] [(2000, 25000)]

theorem hc_progress_graph_way (g : Int × (List (Int × Int × Int × Bool))) (from0 : Int) (to0 : Int) {r : (List Int) × Bool} (h : progress_graph_way g from0 to0 = some r) : HC Try.prog 66 [] [.agg [.int .i64 g.1, .sl (.pair (.int .i64) (.pair (.int .i64) (.pair (.int .i64) .bool))) g.2], .int .i64 from0, .int .i64 to0, .fn (.func 67) [] []] [] (.tup [.sl (.int .i64) r.1, .bool r.2]) := by
 unfold progress_graph_way at h
 refine zH Try.func66 [.cell 8 25, .cell 9 4] 22 ?_
 refine zo ?_
 refine zB [(1, .int .i64 from0), (3, .fn (.func 67) [] []), (4, .bp 4 0), (6, .bp 6 0), (8, .bp 8 0), (9, .bp 9 0)] [(4, .box 69 [.int .i64 g.1, .sl (.pair (.int .i64) (.pair (.int .i64) (.pair (.int .i64) .bool))) g.2]), (6, .box 3 [.int .i64 to0]), (8, .box 25 [.cv (.slice none 0 0)]), (9, .box 4 [.bool false])] ?_
 refine AW.have1 (fun _ : Unit => progress_graph_way_k1 = some r) (fun _ => ⟨fr [(8, .bp 8 0), (9, .bp 9 0)], hpGet [(8, .box 25 [.cv (.slice none 0 0)]), (9, .box 4 [.bool false])], gt⟩) (fun _ h => ?_) (fun hk_progress_graph_way_k1 => ?_)
 ·as_aux_lemma =>
   unfold progress_graph_way_k1 at h
   refine zo ?_
   refine zB [(8, .bp 8 0), (9, .bp 9 0)] [(8, .box 25 [.cv (.slice none 0 0)]), (9, .box 4 [.bool false])] ?_
   refine AW.ret ?_
   obtain rfl := Option.some.inj h
   exact zR [] [] []
 ·refine AW.seq ?_
  refine zo ?_
  refine zS 3 [(6, .bp 6 0), (8, .bp 8 0), (9, .bp 9 0), (12, .agg [.int .i64 g.1, .sl (.pair (.int .i64) (.pair (.int .i64) (.pair (.int .i64) .bool))) g.2]), (13, .int .i64 from0), (14, .fn (.func 67) [] [])] [(6, .box 3 [.int .i64 to0]), (8, .box 25 [.cv (.slice none 0 0)]), (9, .box 4 [.bool false])] ?_
  obtain ⟨v0, hv1, h⟩ := Option.bind_eq_some_iff.1 h
  refine zC [] [] (hc_progress_graph_paths g from0 hv1) [(6, .bp 6 0), (8, .bp 8 0), (9, .bp 9 0), (15, .fn (.func 108) [] [.bp 25000 0, .bp 25001 0, .bp 25002 0])] [(6, .box 3 [.int .i64 to0]), (8, .box 25 [.cv (.slice none 0 0)]), (9, .box 4 [.bool false]), (25000, .box 3 [.int .i64 from0]), (25001, .box 69 [.int .i64 g.1, .sl (.pair (.int .i64) (.pair (.int .i64) (.pair (.int .i64) .bool))) g.2]), (25002, .box 81 [.fn (.func 67) [] []])] ?_
  refine zB [(6, .bp 6 0), (8, .bp 8 0), (9, .bp 9 0), (15, .fn (.func 108) [] [.bp 25000 0, .bp 25001 0, .bp 25002 0])] [(6, .box 3 [.int .i64 to0]), (8, .box 25 [.cv (.slice none 0 0)]), (9, .box 4 [.bool false]), (25000, .box 3 [.int .i64 from0]), (25001, .box 69 [.int .i64 g.1, .sl (.pair (.int .i64) (.pair (.int .i64) (.pair (.int .i64) .bool))) g.2]), (25002, .box 81 [.fn (.func 67) [] []])] ?_
  refine AW.block ?_
  obtain ⟨x2, hx3, h⟩ := Option.bind_eq_some_iff.1 h
  refine AW.weaken (s' := ⟨fr [(6, .bp 6 0), (8, .bp 8 0), (9, .bp 9 0), (15, .fn (.func 108) [] [.bp 25000 0, .bp 25001 0, .bp 25002 0])], hpGet ([(25000, .box 3 [.int .i64 from0]), (25001, .box 69 [.int .i64 g.1, .sl (.pair (.int .i64) (.pair (.int .i64) (.pair (.int .i64) .bool))) g.2]), (25002, .box 81 [.fn (.func 67) [] []])] ++ [(6, .box 3 [.int .i64 to0]), (8, .box 25 [.cv (.slice none 0 0)]), (9, .box 4 [.bool false])]), gt⟩) (zL [] [] []) ?_
  refine AW.rangeF (R := (List Int)) (l0 := [(6, .bp 6 0), (8, .bp 8 0), (9, .bp 9 0)]) (hI := [(25000, .box 3 [.int .i64 from0]), (25001, .box 69 [.int .i64 g.1, .sl (.pair (.int .i64) (.pair (.int .i64) (.pair (.int .i64) .bool))) g.2]), (25002, .box 81 [.fn (.func 67) [] []])]) (h0 := fun (st1 : Unit) => [(6, .box 3 [.int .i64 to0]), (8, .box 25 [.cv (.slice none 0 0)]), (9, .box 4 [.bool false])]) (gg := fun (st1 : Unit) => gt) (hx0 := (fun (r1 : (List Int)) => [(6, .box 3 [.int .i64 to0]), (8, .box 25 [.sl (.int .i64) r1]), (9, .box 4 [.bool true])])) (gx := (fun (r1 : (List Int)) => gt)) (ex := (fun (r1 : (List Int)) => Exit.ret)) () [(25000, 1000), (25001, 1001), (25002, 1002)] [(1000, 25000), (1001, 25001), (1002, 25002)] [(6, 1900), (8, 1901), (9, 1902)] [(1900, 6), (1901, 8), (1902, 9)] (by decide) rfl (by first | exact (ic_progress_graph_paths_1 from0 g (progress_graph_way_y1 to0) () hx3) | simpa only [go_sem] using (ic_progress_graph_paths_1 from0 g (progress_graph_way_y1 to0) () hx3)) (by (simp only [go_sem]) <;> (with_reducible and_intros) <;> first | assumption | rfl | omega | (unfold maxLen; omega)) rfl rfl rfl (fun _ => rfl) rfl (fun _ => rfl) rfl (fun _ => rfl) (fun _ => rfl) (fun _ => rfl) (fun _ => rfl) rfl (fun _ _ => by first | rfl | (exact (hΓ _).trans (hΓ _).symm) | (exact (hΓx _).trans (hΓ _).symm)) (fun _ _ => by first | rfl | (exact (hΓ _).trans (hΓ _).symm) | (exact (hΓx _).trans (hΓ _).symm)) ?_ ?_
  ·intro lpy1 y1 st1 x4 h
   unfold progress_graph_way_y1 at h
   refine zV [(6, .bp 1900 0), (8, .bp 1901 0), (9, .bp 1902 0), (16, .int .i64 y1.1), (17, .sl (.int .i64) y1.2)] [(1900, .box 3 [.int .i64 to0]), (1901, .box 25 [.cv (.slice none 0 0)]), (1902, .box 4 [.bool false])] gt ?_
   refine zo ?_
   refine zB [(6, .bp 1900 0), (8, .bp 1901 0), (9, .bp 1902 0), (10, .int .i64 y1.1), (17, .sl (.int .i64) y1.2)] [(1900, .box 3 [.int .i64 to0]), (1901, .box 25 [.cv (.slice none 0 0)]), (1902, .box 4 [.bool false])] ?_
   refine AW.ops ?_
   refine zA [(6, .bp 1900 0), (8, .bp 1901 0), (9, .bp 1902 0), (10, .int .i64 y1.1), (11, .sl (.int .i64) y1.2)] [(1900, .box 3 [.int .i64 to0]), (1901, .box 25 [.cv (.slice none 0 0)]), (1902, .box 4 [.bool false])] ?_
   refine And.intro rfl ?_
   refine AW.block ?_
   refine zo ?_
   refine zB [(6, .bp 1900 0), (8, .bp 1901 0), (9, .bp 1902 0), (11, .sl (.int .i64) y1.2), (20, .bool (decide (y1.1 = to0)))] [(1900, .box 3 [.int .i64 to0]), (1901, .box 25 [.cv (.slice none 0 0)]), (1902, .box 4 [.bool false])] ?_
   refine zQ h (fun hb5 h => ?_) (fun hb5 h => ?_)
   ·refine zo ?_
    refine zB [(6, .bp 1900 0), (8, .bp 1901 0), (9, .bp 1902 0)] [(1900, .box 3 [.int .i64 to0]), (1901, .box 25 [.sl (.int .i64) y1.2]), (1902, .box 4 [.bool true])] ?_
    refine AW.ret ?_
    refine ablock_r ?_
    obtain rfl := Option.some.inj h
    exact rpost_ret rfl rfl [] [] [] rfl (by (simp only [go_sem, hb5]) <;> (with_reducible and_intros) <;> first | assumption | rfl | omega | (unfold maxLen; omega))
   ·refine zm ?_
    obtain rfl := Option.some.inj h
    exact rpost_next rfl [] [] [] rfl (by (simp only [go_sem, hb5]) <;> (with_reducible and_intros) <;> first | assumption | rfl | omega | (unfold maxLen; omega))
  ·cases x2 with
   | inl st1_2 =>
    try simp only at h
    refine ablock_n ?_
    refine athen_n ?_
    exact AW.weaken (zL [] [] []) (hk_progress_graph_way_k1 () h)
   | inr r1 =>
    try simp only at h
    refine ablock_r ?_
    refine athen_r ?_
    obtain rfl := Option.some.inj h
    exact zR [] [] []

theorem hc_progress_Way (g : Int × (List (Int × Int × Int × Bool))) (place : Int) {r : (List Int) × Int} (h : progress_Way g place = some r) : HC Try.prog 25 [] [.agg [.int .i64 g.1, .sl (.pair (.int .i64) (.pair (.int .i64) (.pair (.int .i64) .bool))) g.2], .int .i64 place] [] (.tup [.sl (.int .i64) r.1, .int .i64 r.2]) := by
 unfold progress_Way at h
 refine zH Try.func25 [.tmp 4, .tmp 5] 32 ?_
 refine zo ?_
 refine zB [(1, .int .i64 place), (2, .bp 2 0)] [(2, .box 24 [.int .i64 g.1, .sl (.pair (.int .i64) (.pair (.int .i64) (.pair (.int .i64) .bool))) g.2])] ?_
 refine zo ?_
 refine zS 1 [(1, .int .i64 place), (2, .bp 2 0), (11, .agg [.int .i64 g.1, .sl (.pair (.int .i64) (.pair (.int .i64) (.pair (.int .i64) .bool))) g.2])] [(2, .box 24 [.int .i64 g.1, .sl (.pair (.int .i64) (.pair (.int .i64) (.pair (.int .i64) .bool))) g.2])] ?_
 obtain ⟨v0, hv1, h⟩ := Option.bind_eq_some_iff.1 h
 refine zC [] [] (hc_progress_graphOf g hv1) [(1, .int .i64 place), (2, .bp 2 0), (12, .tup [.agg [.int .i64 v0.1, .sl (.pair (.int .i64) (.pair (.int .i64) (.pair (.int .i64) .bool))) v0.2.1], .int .i64 v0.2.2])] [(2, .box 24 [.int .i64 g.1, .sl (.pair (.int .i64) (.pair (.int .i64) (.pair (.int .i64) .bool))) g.2])] ?_
 refine zS 5 [(1, .int .i64 place), (2, .bp 2 0), (6, .bp 6 0), (14, .int .i64 v0.2.2)] [(2, .box 24 [.int .i64 g.1, .sl (.pair (.int .i64) (.pair (.int .i64) (.pair (.int .i64) .bool))) g.2]), (6, .box 69 [.int .i64 v0.1, .sl (.pair (.int .i64) (.pair (.int .i64) (.pair (.int .i64) .bool))) v0.2.1])] ?_
 refine zB [(1, .int .i64 place), (2, .bp 2 0), (6, .bp 6 0), (7, .int .i64 v0.2.2)] [(2, .box 24 [.int .i64 g.1, .sl (.pair (.int .i64) (.pair (.int .i64) (.pair (.int .i64) .bool))) g.2]), (6, .box 69 [.int .i64 v0.1, .sl (.pair (.int .i64) (.pair (.int .i64) (.pair (.int .i64) .bool))) v0.2.1])] ?_
 refine AW.seq ?_
 refine zo ?_
 refine zB [(1, .int .i64 place), (2, .bp 2 0), (6, .bp 6 0), (7, .int .i64 v0.2.2), (16, .bool (!(decide (v0.2.2 = 0))))] [(2, .box 24 [.int .i64 g.1, .sl (.pair (.int .i64) (.pair (.int .i64) (.pair (.int .i64) .bool))) g.2]), (6, .box 69 [.int .i64 v0.1, .sl (.pair (.int .i64) (.pair (.int .i64) (.pair (.int .i64) .bool))) v0.2.1])] ?_
 refine zQ h (fun hb2 h => ?_) (fun hb2 h => ?_)
 ·refine zo ?_
  refine zB [(4, .cv (.slice none 0 0)), (5, .int .i64 v0.2.2)] [] ?_
  refine zr ?_
  obtain rfl := Option.some.inj h
  exact zR [] [] []
 ·refine zk ?_
  refine AW.seq ?_
  refine zo ?_
  refine zS 3 [(1, .int .i64 place), (6, .bp 6 0), (18, .int .i64 place), (20, .int .i64 g.1)] [(6, .box 69 [.int .i64 v0.1, .sl (.pair (.int .i64) (.pair (.int .i64) (.pair (.int .i64) .bool))) v0.2.1])] ?_
  obtain ⟨v0_2, hv3, h⟩ := Option.bind_eq_some_iff.1 h
  refine zC [] [] (hc_progress_isBelow place g.1 hv3) [(1, .int .i64 place), (6, .bp 6 0), (21, .bool v0_2)] [(6, .box 69 [.int .i64 v0.1, .sl (.pair (.int .i64) (.pair (.int .i64) (.pair (.int .i64) .bool))) v0.2.1])] ?_
  refine zB [(1, .int .i64 place), (6, .bp 6 0), (22, .bool (!v0_2))] [(6, .box 69 [.int .i64 v0.1, .sl (.pair (.int .i64) (.pair (.int .i64) (.pair (.int .i64) .bool))) v0.2.1])] ?_
  refine zQ h (fun hb4 h => ?_) (fun hb4 h => ?_)
  ·refine zo ?_
   refine zB [(4, .cv (.slice none 0 0)), (5, .int .i64 2)] [] ?_
   refine zr ?_
   obtain rfl := Option.some.inj h
   exact zR [] [] []
  ·refine zk ?_
   refine zo ?_
   refine zS 2 [(24, .agg [.int .i64 v0.1, .sl (.pair (.int .i64) (.pair (.int .i64) (.pair (.int .i64) .bool))) v0.2.1]), (25, .int .i64 place)] [] ?_
   obtain ⟨v0_3, hv5, h⟩ := Option.bind_eq_some_iff.1 h
   refine zC [] [] (hc_progress_graph_way (v0.1, v0.2.1) 0 place hv5) [(26, .tup [.sl (.int .i64) v0_3.1, .bool v0_3.2])] [] ?_
   refine zB [(8, .sl (.int .i64) v0_3.1), (9, .bool v0_3.2)] [] ?_
   refine AW.seq ?_
   refine zo ?_
   refine zB [(8, .sl (.int .i64) v0_3.1), (30, .bool (!v0_3.2))] [] ?_
   refine zQ h (fun hb6 h => ?_) (fun hb6 h => ?_)
   ·refine zo ?_
    refine zB [(4, .cv (.slice none 0 0)), (5, .int .i64 5)] [] ?_
    refine zr ?_
    obtain rfl := Option.some.inj h
    exact zR [] [] []
   ·refine zk ?_
    refine zo ?_
    refine zB [(4, .sl (.int .i64) v0_3.1), (5, .int .i64 0)] [] ?_
    refine AW.ret ?_
    obtain rfl := Option.some.inj h
    exact zR [] [] []

end Go.Proofs.Yteclokkdgmacpaa
