/-
  Made by wip/tool/dc.py out of the print of the program: contracts.
-/
import Derived.Test.YtlfpagicagmjgaaHp
import Derived.Test.YtlfpagicagmjgaaShh
import Derived.Test.YtlfpagicagmjgaaAvd
import Derived.Test.YtlfpagicagmjgaaKic3
namespace Go.Proofs.Ytlfpagicagmjgaa
open Go.RowKit

set_option linter.unusedSimpArgs false
set_option linter.unusedVariables false
set_option linter.constructorNameAsVariable false

set_option maxRecDepth 100000
set_option maxHeartbeats 2000000

theorem hc_linealref02_Valid (h0 : List (Int × Int × Int × Int × Int × Int)) {r : Bool} (h : linealref02_Valid h0 = some r) : HC Try.prog 25 [] [.sl Y1 h0] [] (.bool r) := by
  unfold linealref02_Valid at h
  refine zH Try.func25 [.tmp 2] 80 ?_
  refine zo ?_
  refine zB [(0, .sl Y1 h0)] [] ?_
  refine AW.seq ?_
  refine zo ?_
  refine zB [(0, .sl Y1 h0), (8, .bool (decide (8 < (h0.length : Int))))] [] ?_
  refine zQ h (fun hb1 h => ?_) (fun hb1 h => ?_)
  ·
    refine zo ?_
    refine zB [(2, .bool false)] [] ?_
    refine zr ?_
    obtain rfl := Option.some.inj h
    exact zR [] [] []
  ·
    refine zk ?_
    refine AW.have1 (fun _ : Unit => linealref02_Valid_k1 = some r) (fun _ => ⟨fr [], hpGet [], gt⟩) (fun _ h => ?_) (fun hk_linealref02_Valid_k1 => ?_)
    · unfold linealref02_Valid_k1 at h
      refine zo ?_
      refine zB [(2, .bool true)] [] ?_
      refine AW.ret ?_
      obtain rfl := Option.some.inj h
      exact zR [] [] []
    · refine AW.seq ?_
      refine zo ?_
      refine zB [(0, .sl Y1 h0), (3, .int .i64 0)] [] ?_
      refine AW.block ?_
      obtain ⟨rv6, hw2, ho3⟩ := Option.bind_eq_some_iff.1 h
      refine AW.loopO (linealref02_Valid_b1 h0) (fun st1 => ⟨fr [(0, .sl Y1 h0), (3, .int .i64 st1)], hpGet [], gt⟩) 0 hw2 (zL [] [] []) ?_
      intro st1 x5 h hd4
      unfold linealref02_Valid_b1 at h
      refine AW.seq ?_
      refine zo ?_
      refine zB [(0, .sl Y1 h0), (3, .int .i64 st1), (12, .bool (decide (st1 < (h0.length : Int))))] [] ?_
      refine zQ h (fun hb7 h => ?_) (fun hb7 h => ?_)
      ·
        refine zk ?_
        refine AW.have1 (fun _ : Unit => linealref02_Valid_k2 st1 = some x5) (fun _ => ⟨fr [(0, .sl Y1 h0), (3, .int .i64 st1)], hpGet [], gt⟩) (fun _ h => ?_) (fun hk_linealref02_Valid_k2 => ?_)
        · unfold linealref02_Valid_k2 at h
          refine AW.ops ?_
          obtain ⟨c8, h⟩ := ck_some.1 h
          refine zA [(0, .sl Y1 h0), (3, .int .i64 (st1 + 1))] [] ?_
          obtain rfl := Option.some.inj h
          exact ⟨_, rfl, zL [] [] []⟩
        · refine AW.seq ?_
          refine AW.block ?_
          refine zo ?_
          obtain ⟨c9, h⟩ := ck_some.1 h
          obtain ⟨c10, h⟩ := ck_some.1 h
          refine zB [(0, .sl Y1 h0), (3, .int .i64 st1), (4, .bp 4 0)] [(4, .box 55 [.int .i64 (h0.getD st1.toNat (0, 0, 0, 0, 0, 0)).1, .int .i64 (h0.getD st1.toNat (0, 0, 0, 0, 0, 0)).2.1, .int .i64 (h0.getD st1.toNat (0, 0, 0, 0, 0, 0)).2.2.1, .int .i64 (h0.getD st1.toNat (0, 0, 0, 0, 0, 0)).2.2.2.1, .int .i64 (h0.getD st1.toNat (0, 0, 0, 0, 0, 0)).2.2.2.2.1, .int .i64 (h0.getD st1.toNat (0, 0, 0, 0, 0, 0)).2.2.2.2.2])] ?_
          refine AW.seq ?_
          refine zo ?_
          refine zS 2 [(0, .sl Y1 h0), (3, .int .i64 st1), (4, .bp 4 0), (20, .int .i64 (h0.getD st1.toNat (0, 0, 0, 0, 0, 0)).1)] [(4, .box 55 [.int .i64 (h0.getD st1.toNat (0, 0, 0, 0, 0, 0)).1, .int .i64 (h0.getD st1.toNat (0, 0, 0, 0, 0, 0)).2.1, .int .i64 (h0.getD st1.toNat (0, 0, 0, 0, 0, 0)).2.2.1, .int .i64 (h0.getD st1.toNat (0, 0, 0, 0, 0, 0)).2.2.2.1, .int .i64 (h0.getD st1.toNat (0, 0, 0, 0, 0, 0)).2.2.2.2.1, .int .i64 (h0.getD st1.toNat (0, 0, 0, 0, 0, 0)).2.2.2.2.2])] ?_
          obtain ⟨v0, hv11, h⟩ := Option.bind_eq_some_iff.1 h
          refine zC [] [] (hc_linealref02_within 0 (h0.getD st1.toNat (0, 0, 0, 0, 0, 0)).1 3 hv11) [(0, .sl Y1 h0), (3, .int .i64 st1), (4, .bp 4 0), (21, .bool v0)] [(4, .box 55 [.int .i64 (h0.getD st1.toNat (0, 0, 0, 0, 0, 0)).1, .int .i64 (h0.getD st1.toNat (0, 0, 0, 0, 0, 0)).2.1, .int .i64 (h0.getD st1.toNat (0, 0, 0, 0, 0, 0)).2.2.1, .int .i64 (h0.getD st1.toNat (0, 0, 0, 0, 0, 0)).2.2.2.1, .int .i64 (h0.getD st1.toNat (0, 0, 0, 0, 0, 0)).2.2.2.2.1, .int .i64 (h0.getD st1.toNat (0, 0, 0, 0, 0, 0)).2.2.2.2.2])] ?_
          refine zS 2 [(0, .sl Y1 h0), (3, .int .i64 st1), (4, .bp 4 0), (23, .bool (!v0))] [(4, .box 55 [.int .i64 (h0.getD st1.toNat (0, 0, 0, 0, 0, 0)).1, .int .i64 (h0.getD st1.toNat (0, 0, 0, 0, 0, 0)).2.1, .int .i64 (h0.getD st1.toNat (0, 0, 0, 0, 0, 0)).2.2.1, .int .i64 (h0.getD st1.toNat (0, 0, 0, 0, 0, 0)).2.2.2.1, .int .i64 (h0.getD st1.toNat (0, 0, 0, 0, 0, 0)).2.2.2.2.1, .int .i64 (h0.getD st1.toNat (0, 0, 0, 0, 0, 0)).2.2.2.2.2])] ?_
          rcases zI h with ⟨hb12, h⟩ | ⟨hb12, h⟩
          ·
            refine zT [(0, .sl Y1 h0), (3, .int .i64 st1), (4, .bp 4 0), (23, .bool true)] [(4, .box 55 [.int .i64 (h0.getD st1.toNat (0, 0, 0, 0, 0, 0)).1, .int .i64 (h0.getD st1.toNat (0, 0, 0, 0, 0, 0)).2.1, .int .i64 (h0.getD st1.toNat (0, 0, 0, 0, 0, 0)).2.2.1, .int .i64 (h0.getD st1.toNat (0, 0, 0, 0, 0, 0)).2.2.2.1, .int .i64 (h0.getD st1.toNat (0, 0, 0, 0, 0, 0)).2.2.2.2.1, .int .i64 (h0.getD st1.toNat (0, 0, 0, 0, 0, 0)).2.2.2.2.2])] gt ?_
            refine zS 4 [(0, .sl Y1 h0), (3, .int .i64 st1), (4, .bp 4 0), (23, .bool true), (27, .cv (undef))] [(4, .box 55 [.int .i64 (h0.getD st1.toNat (0, 0, 0, 0, 0, 0)).1, .int .i64 (h0.getD st1.toNat (0, 0, 0, 0, 0, 0)).2.1, .int .i64 (h0.getD st1.toNat (0, 0, 0, 0, 0, 0)).2.2.1, .int .i64 (h0.getD st1.toNat (0, 0, 0, 0, 0, 0)).2.2.2.1, .int .i64 (h0.getD st1.toNat (0, 0, 0, 0, 0, 0)).2.2.2.2.1, .int .i64 (h0.getD st1.toNat (0, 0, 0, 0, 0, 0)).2.2.2.2.2])] ?_
            refine zS 6 [(0, .sl Y1 h0), (3, .int .i64 st1), (4, .bp 4 0), (29, .bool true), (33, .cv (undef))] [(4, .box 55 [.int .i64 (h0.getD st1.toNat (0, 0, 0, 0, 0, 0)).1, .int .i64 (h0.getD st1.toNat (0, 0, 0, 0, 0, 0)).2.1, .int .i64 (h0.getD st1.toNat (0, 0, 0, 0, 0, 0)).2.2.1, .int .i64 (h0.getD st1.toNat (0, 0, 0, 0, 0, 0)).2.2.2.1, .int .i64 (h0.getD st1.toNat (0, 0, 0, 0, 0, 0)).2.2.2.2.1, .int .i64 (h0.getD st1.toNat (0, 0, 0, 0, 0, 0)).2.2.2.2.2])] ?_
            refine zS 6 [(0, .sl Y1 h0), (3, .int .i64 st1), (4, .bp 4 0), (35, .bool true), (39, .cv (undef))] [(4, .box 55 [.int .i64 (h0.getD st1.toNat (0, 0, 0, 0, 0, 0)).1, .int .i64 (h0.getD st1.toNat (0, 0, 0, 0, 0, 0)).2.1, .int .i64 (h0.getD st1.toNat (0, 0, 0, 0, 0, 0)).2.2.1, .int .i64 (h0.getD st1.toNat (0, 0, 0, 0, 0, 0)).2.2.2.1, .int .i64 (h0.getD st1.toNat (0, 0, 0, 0, 0, 0)).2.2.2.2.1, .int .i64 (h0.getD st1.toNat (0, 0, 0, 0, 0, 0)).2.2.2.2.2])] ?_
            refine zS 6 [(0, .sl Y1 h0), (3, .int .i64 st1), (4, .bp 4 0), (41, .bool true), (45, .cv (undef))] [(4, .box 55 [.int .i64 (h0.getD st1.toNat (0, 0, 0, 0, 0, 0)).1, .int .i64 (h0.getD st1.toNat (0, 0, 0, 0, 0, 0)).2.1, .int .i64 (h0.getD st1.toNat (0, 0, 0, 0, 0, 0)).2.2.1, .int .i64 (h0.getD st1.toNat (0, 0, 0, 0, 0, 0)).2.2.2.1, .int .i64 (h0.getD st1.toNat (0, 0, 0, 0, 0, 0)).2.2.2.2.1, .int .i64 (h0.getD st1.toNat (0, 0, 0, 0, 0, 0)).2.2.2.2.2])] ?_
            refine zB [(0, .sl Y1 h0), (3, .int .i64 st1), (4, .bp 4 0), (46, .bool true)] [(4, .box 55 [.int .i64 (h0.getD st1.toNat (0, 0, 0, 0, 0, 0)).1, .int .i64 (h0.getD st1.toNat (0, 0, 0, 0, 0, 0)).2.1, .int .i64 (h0.getD st1.toNat (0, 0, 0, 0, 0, 0)).2.2.1, .int .i64 (h0.getD st1.toNat (0, 0, 0, 0, 0, 0)).2.2.2.1, .int .i64 (h0.getD st1.toNat (0, 0, 0, 0, 0, 0)).2.2.2.2.1, .int .i64 (h0.getD st1.toNat (0, 0, 0, 0, 0, 0)).2.2.2.2.2])] ?_
            refine AW.cond (b := true) rfl (fun _ => ?_) (fun hb13 => by cases hb13)
            refine zo ?_
            refine zB [(2, .bool false)] [] ?_
            refine zr ?_
            refine ablock_r ?_
            refine athen_r ?_
            obtain rfl := Option.some.inj h
            rw [← hd4 _ rfl] at ho3
            have h := ho3
            try simp only at h
            refine athen_r ?_
            refine ablock_r ?_
            refine athen_r ?_
            obtain rfl := Option.some.inj h
            exact zR [] [] []
          ·
            refine zT [(0, .sl Y1 h0), (3, .int .i64 st1), (4, .bp 4 0), (23, .bool false)] [(4, .box 55 [.int .i64 (h0.getD st1.toNat (0, 0, 0, 0, 0, 0)).1, .int .i64 (h0.getD st1.toNat (0, 0, 0, 0, 0, 0)).2.1, .int .i64 (h0.getD st1.toNat (0, 0, 0, 0, 0, 0)).2.2.1, .int .i64 (h0.getD st1.toNat (0, 0, 0, 0, 0, 0)).2.2.2.1, .int .i64 (h0.getD st1.toNat (0, 0, 0, 0, 0, 0)).2.2.2.2.1, .int .i64 (h0.getD st1.toNat (0, 0, 0, 0, 0, 0)).2.2.2.2.2])] gt ?_
            refine zS 2 [(0, .sl Y1 h0), (3, .int .i64 st1), (4, .bp 4 0), (23, .bool false), (25, .int .i64 (h0.getD st1.toNat (0, 0, 0, 0, 0, 0)).2.1)] [(4, .box 55 [.int .i64 (h0.getD st1.toNat (0, 0, 0, 0, 0, 0)).1, .int .i64 (h0.getD st1.toNat (0, 0, 0, 0, 0, 0)).2.1, .int .i64 (h0.getD st1.toNat (0, 0, 0, 0, 0, 0)).2.2.1, .int .i64 (h0.getD st1.toNat (0, 0, 0, 0, 0, 0)).2.2.2.1, .int .i64 (h0.getD st1.toNat (0, 0, 0, 0, 0, 0)).2.2.2.2.1, .int .i64 (h0.getD st1.toNat (0, 0, 0, 0, 0, 0)).2.2.2.2.2])] ?_
            obtain ⟨v0_2, hv14, h⟩ := Option.bind_eq_some_iff.1 h
            refine zG [] [] (hc_linealref02_within 0 (h0.getD st1.toNat (0, 0, 0, 0, 0, 0)).2.1 1 hv14) [(0, .sl Y1 h0), (3, .int .i64 st1), (4, .bp 4 0), (23, .bool false), (26, .bool v0_2)] [(4, .box 55 [.int .i64 (h0.getD st1.toNat (0, 0, 0, 0, 0, 0)).1, .int .i64 (h0.getD st1.toNat (0, 0, 0, 0, 0, 0)).2.1, .int .i64 (h0.getD st1.toNat (0, 0, 0, 0, 0, 0)).2.2.1, .int .i64 (h0.getD st1.toNat (0, 0, 0, 0, 0, 0)).2.2.2.1, .int .i64 (h0.getD st1.toNat (0, 0, 0, 0, 0, 0)).2.2.2.2.1, .int .i64 (h0.getD st1.toNat (0, 0, 0, 0, 0, 0)).2.2.2.2.2])] ?_
            refine zS 3 [(0, .sl Y1 h0), (3, .int .i64 st1), (4, .bp 4 0), (29, .bool (!v0_2))] [(4, .box 55 [.int .i64 (h0.getD st1.toNat (0, 0, 0, 0, 0, 0)).1, .int .i64 (h0.getD st1.toNat (0, 0, 0, 0, 0, 0)).2.1, .int .i64 (h0.getD st1.toNat (0, 0, 0, 0, 0, 0)).2.2.1, .int .i64 (h0.getD st1.toNat (0, 0, 0, 0, 0, 0)).2.2.2.1, .int .i64 (h0.getD st1.toNat (0, 0, 0, 0, 0, 0)).2.2.2.2.1, .int .i64 (h0.getD st1.toNat (0, 0, 0, 0, 0, 0)).2.2.2.2.2])] ?_
            rcases zI h with ⟨hb15, h⟩ | ⟨hb15, h⟩
            ·
              refine zT [(0, .sl Y1 h0), (3, .int .i64 st1), (4, .bp 4 0), (29, .bool true)] [(4, .box 55 [.int .i64 (h0.getD st1.toNat (0, 0, 0, 0, 0, 0)).1, .int .i64 (h0.getD st1.toNat (0, 0, 0, 0, 0, 0)).2.1, .int .i64 (h0.getD st1.toNat (0, 0, 0, 0, 0, 0)).2.2.1, .int .i64 (h0.getD st1.toNat (0, 0, 0, 0, 0, 0)).2.2.2.1, .int .i64 (h0.getD st1.toNat (0, 0, 0, 0, 0, 0)).2.2.2.2.1, .int .i64 (h0.getD st1.toNat (0, 0, 0, 0, 0, 0)).2.2.2.2.2])] gt ?_
              refine zS 4 [(0, .sl Y1 h0), (3, .int .i64 st1), (4, .bp 4 0), (29, .bool true), (33, .cv (undef))] [(4, .box 55 [.int .i64 (h0.getD st1.toNat (0, 0, 0, 0, 0, 0)).1, .int .i64 (h0.getD st1.toNat (0, 0, 0, 0, 0, 0)).2.1, .int .i64 (h0.getD st1.toNat (0, 0, 0, 0, 0, 0)).2.2.1, .int .i64 (h0.getD st1.toNat (0, 0, 0, 0, 0, 0)).2.2.2.1, .int .i64 (h0.getD st1.toNat (0, 0, 0, 0, 0, 0)).2.2.2.2.1, .int .i64 (h0.getD st1.toNat (0, 0, 0, 0, 0, 0)).2.2.2.2.2])] ?_
              refine zS 6 [(0, .sl Y1 h0), (3, .int .i64 st1), (4, .bp 4 0), (35, .bool true), (39, .cv (undef))] [(4, .box 55 [.int .i64 (h0.getD st1.toNat (0, 0, 0, 0, 0, 0)).1, .int .i64 (h0.getD st1.toNat (0, 0, 0, 0, 0, 0)).2.1, .int .i64 (h0.getD st1.toNat (0, 0, 0, 0, 0, 0)).2.2.1, .int .i64 (h0.getD st1.toNat (0, 0, 0, 0, 0, 0)).2.2.2.1, .int .i64 (h0.getD st1.toNat (0, 0, 0, 0, 0, 0)).2.2.2.2.1, .int .i64 (h0.getD st1.toNat (0, 0, 0, 0, 0, 0)).2.2.2.2.2])] ?_
              refine zS 6 [(0, .sl Y1 h0), (3, .int .i64 st1), (4, .bp 4 0), (41, .bool true), (45, .cv (undef))] [(4, .box 55 [.int .i64 (h0.getD st1.toNat (0, 0, 0, 0, 0, 0)).1, .int .i64 (h0.getD st1.toNat (0, 0, 0, 0, 0, 0)).2.1, .int .i64 (h0.getD st1.toNat (0, 0, 0, 0, 0, 0)).2.2.1, .int .i64 (h0.getD st1.toNat (0, 0, 0, 0, 0, 0)).2.2.2.1, .int .i64 (h0.getD st1.toNat (0, 0, 0, 0, 0, 0)).2.2.2.2.1, .int .i64 (h0.getD st1.toNat (0, 0, 0, 0, 0, 0)).2.2.2.2.2])] ?_
              refine zB [(0, .sl Y1 h0), (3, .int .i64 st1), (4, .bp 4 0), (46, .bool true)] [(4, .box 55 [.int .i64 (h0.getD st1.toNat (0, 0, 0, 0, 0, 0)).1, .int .i64 (h0.getD st1.toNat (0, 0, 0, 0, 0, 0)).2.1, .int .i64 (h0.getD st1.toNat (0, 0, 0, 0, 0, 0)).2.2.1, .int .i64 (h0.getD st1.toNat (0, 0, 0, 0, 0, 0)).2.2.2.1, .int .i64 (h0.getD st1.toNat (0, 0, 0, 0, 0, 0)).2.2.2.2.1, .int .i64 (h0.getD st1.toNat (0, 0, 0, 0, 0, 0)).2.2.2.2.2])] ?_
              refine AW.cond (b := true) rfl (fun _ => ?_) (fun hb16 => by cases hb16)
              refine zo ?_
              refine zB [(2, .bool false)] [] ?_
              refine zr ?_
              refine ablock_r ?_
              refine athen_r ?_
              obtain rfl := Option.some.inj h
              rw [← hd4 _ rfl] at ho3
              have h := ho3
              try simp only at h
              refine athen_r ?_
              refine ablock_r ?_
              refine athen_r ?_
              obtain rfl := Option.some.inj h
              exact zR [] [] []
            ·
              refine zT [(0, .sl Y1 h0), (3, .int .i64 st1), (4, .bp 4 0), (29, .bool false)] [(4, .box 55 [.int .i64 (h0.getD st1.toNat (0, 0, 0, 0, 0, 0)).1, .int .i64 (h0.getD st1.toNat (0, 0, 0, 0, 0, 0)).2.1, .int .i64 (h0.getD st1.toNat (0, 0, 0, 0, 0, 0)).2.2.1, .int .i64 (h0.getD st1.toNat (0, 0, 0, 0, 0, 0)).2.2.2.1, .int .i64 (h0.getD st1.toNat (0, 0, 0, 0, 0, 0)).2.2.2.2.1, .int .i64 (h0.getD st1.toNat (0, 0, 0, 0, 0, 0)).2.2.2.2.2])] gt ?_
              refine zS 2 [(0, .sl Y1 h0), (3, .int .i64 st1), (4, .bp 4 0), (29, .bool false), (31, .int .i64 (h0.getD st1.toNat (0, 0, 0, 0, 0, 0)).2.2.1)] [(4, .box 55 [.int .i64 (h0.getD st1.toNat (0, 0, 0, 0, 0, 0)).1, .int .i64 (h0.getD st1.toNat (0, 0, 0, 0, 0, 0)).2.1, .int .i64 (h0.getD st1.toNat (0, 0, 0, 0, 0, 0)).2.2.1, .int .i64 (h0.getD st1.toNat (0, 0, 0, 0, 0, 0)).2.2.2.1, .int .i64 (h0.getD st1.toNat (0, 0, 0, 0, 0, 0)).2.2.2.2.1, .int .i64 (h0.getD st1.toNat (0, 0, 0, 0, 0, 0)).2.2.2.2.2])] ?_
              obtain ⟨v0_3, hv17, h⟩ := Option.bind_eq_some_iff.1 h
              refine zG [] [] (hc_linealref02_within 0 (h0.getD st1.toNat (0, 0, 0, 0, 0, 0)).2.2.1 3 hv17) [(0, .sl Y1 h0), (3, .int .i64 st1), (4, .bp 4 0), (29, .bool false), (32, .bool v0_3)] [(4, .box 55 [.int .i64 (h0.getD st1.toNat (0, 0, 0, 0, 0, 0)).1, .int .i64 (h0.getD st1.toNat (0, 0, 0, 0, 0, 0)).2.1, .int .i64 (h0.getD st1.toNat (0, 0, 0, 0, 0, 0)).2.2.1, .int .i64 (h0.getD st1.toNat (0, 0, 0, 0, 0, 0)).2.2.2.1, .int .i64 (h0.getD st1.toNat (0, 0, 0, 0, 0, 0)).2.2.2.2.1, .int .i64 (h0.getD st1.toNat (0, 0, 0, 0, 0, 0)).2.2.2.2.2])] ?_
              refine zS 3 [(0, .sl Y1 h0), (3, .int .i64 st1), (4, .bp 4 0), (35, .bool (!v0_3))] [(4, .box 55 [.int .i64 (h0.getD st1.toNat (0, 0, 0, 0, 0, 0)).1, .int .i64 (h0.getD st1.toNat (0, 0, 0, 0, 0, 0)).2.1, .int .i64 (h0.getD st1.toNat (0, 0, 0, 0, 0, 0)).2.2.1, .int .i64 (h0.getD st1.toNat (0, 0, 0, 0, 0, 0)).2.2.2.1, .int .i64 (h0.getD st1.toNat (0, 0, 0, 0, 0, 0)).2.2.2.2.1, .int .i64 (h0.getD st1.toNat (0, 0, 0, 0, 0, 0)).2.2.2.2.2])] ?_
              rcases zI h with ⟨hb18, h⟩ | ⟨hb18, h⟩
              ·
                refine zT [(0, .sl Y1 h0), (3, .int .i64 st1), (4, .bp 4 0), (35, .bool true)] [(4, .box 55 [.int .i64 (h0.getD st1.toNat (0, 0, 0, 0, 0, 0)).1, .int .i64 (h0.getD st1.toNat (0, 0, 0, 0, 0, 0)).2.1, .int .i64 (h0.getD st1.toNat (0, 0, 0, 0, 0, 0)).2.2.1, .int .i64 (h0.getD st1.toNat (0, 0, 0, 0, 0, 0)).2.2.2.1, .int .i64 (h0.getD st1.toNat (0, 0, 0, 0, 0, 0)).2.2.2.2.1, .int .i64 (h0.getD st1.toNat (0, 0, 0, 0, 0, 0)).2.2.2.2.2])] gt ?_
                refine zS 4 [(0, .sl Y1 h0), (3, .int .i64 st1), (4, .bp 4 0), (35, .bool true), (39, .cv (undef))] [(4, .box 55 [.int .i64 (h0.getD st1.toNat (0, 0, 0, 0, 0, 0)).1, .int .i64 (h0.getD st1.toNat (0, 0, 0, 0, 0, 0)).2.1, .int .i64 (h0.getD st1.toNat (0, 0, 0, 0, 0, 0)).2.2.1, .int .i64 (h0.getD st1.toNat (0, 0, 0, 0, 0, 0)).2.2.2.1, .int .i64 (h0.getD st1.toNat (0, 0, 0, 0, 0, 0)).2.2.2.2.1, .int .i64 (h0.getD st1.toNat (0, 0, 0, 0, 0, 0)).2.2.2.2.2])] ?_
                refine zS 6 [(0, .sl Y1 h0), (3, .int .i64 st1), (4, .bp 4 0), (41, .bool true), (45, .cv (undef))] [(4, .box 55 [.int .i64 (h0.getD st1.toNat (0, 0, 0, 0, 0, 0)).1, .int .i64 (h0.getD st1.toNat (0, 0, 0, 0, 0, 0)).2.1, .int .i64 (h0.getD st1.toNat (0, 0, 0, 0, 0, 0)).2.2.1, .int .i64 (h0.getD st1.toNat (0, 0, 0, 0, 0, 0)).2.2.2.1, .int .i64 (h0.getD st1.toNat (0, 0, 0, 0, 0, 0)).2.2.2.2.1, .int .i64 (h0.getD st1.toNat (0, 0, 0, 0, 0, 0)).2.2.2.2.2])] ?_
                refine zB [(0, .sl Y1 h0), (3, .int .i64 st1), (4, .bp 4 0), (46, .bool true)] [(4, .box 55 [.int .i64 (h0.getD st1.toNat (0, 0, 0, 0, 0, 0)).1, .int .i64 (h0.getD st1.toNat (0, 0, 0, 0, 0, 0)).2.1, .int .i64 (h0.getD st1.toNat (0, 0, 0, 0, 0, 0)).2.2.1, .int .i64 (h0.getD st1.toNat (0, 0, 0, 0, 0, 0)).2.2.2.1, .int .i64 (h0.getD st1.toNat (0, 0, 0, 0, 0, 0)).2.2.2.2.1, .int .i64 (h0.getD st1.toNat (0, 0, 0, 0, 0, 0)).2.2.2.2.2])] ?_
                refine AW.cond (b := true) rfl (fun _ => ?_) (fun hb19 => by cases hb19)
                refine zo ?_
                refine zB [(2, .bool false)] [] ?_
                refine zr ?_
                refine ablock_r ?_
                refine athen_r ?_
                obtain rfl := Option.some.inj h
                rw [← hd4 _ rfl] at ho3
                have h := ho3
                try simp only at h
                refine athen_r ?_
                refine ablock_r ?_
                refine athen_r ?_
                obtain rfl := Option.some.inj h
                exact zR [] [] []
              ·
                refine zT [(0, .sl Y1 h0), (3, .int .i64 st1), (4, .bp 4 0), (35, .bool false)] [(4, .box 55 [.int .i64 (h0.getD st1.toNat (0, 0, 0, 0, 0, 0)).1, .int .i64 (h0.getD st1.toNat (0, 0, 0, 0, 0, 0)).2.1, .int .i64 (h0.getD st1.toNat (0, 0, 0, 0, 0, 0)).2.2.1, .int .i64 (h0.getD st1.toNat (0, 0, 0, 0, 0, 0)).2.2.2.1, .int .i64 (h0.getD st1.toNat (0, 0, 0, 0, 0, 0)).2.2.2.2.1, .int .i64 (h0.getD st1.toNat (0, 0, 0, 0, 0, 0)).2.2.2.2.2])] gt ?_
                refine zS 2 [(0, .sl Y1 h0), (3, .int .i64 st1), (4, .bp 4 0), (35, .bool false), (37, .int .i64 (h0.getD st1.toNat (0, 0, 0, 0, 0, 0)).2.2.2.1)] [(4, .box 55 [.int .i64 (h0.getD st1.toNat (0, 0, 0, 0, 0, 0)).1, .int .i64 (h0.getD st1.toNat (0, 0, 0, 0, 0, 0)).2.1, .int .i64 (h0.getD st1.toNat (0, 0, 0, 0, 0, 0)).2.2.1, .int .i64 (h0.getD st1.toNat (0, 0, 0, 0, 0, 0)).2.2.2.1, .int .i64 (h0.getD st1.toNat (0, 0, 0, 0, 0, 0)).2.2.2.2.1, .int .i64 (h0.getD st1.toNat (0, 0, 0, 0, 0, 0)).2.2.2.2.2])] ?_
                obtain ⟨v0_4, hv20, h⟩ := Option.bind_eq_some_iff.1 h
                refine zG [] [] (hc_linealref02_within 0 (h0.getD st1.toNat (0, 0, 0, 0, 0, 0)).2.2.2.1 9 hv20) [(0, .sl Y1 h0), (3, .int .i64 st1), (4, .bp 4 0), (35, .bool false), (38, .bool v0_4)] [(4, .box 55 [.int .i64 (h0.getD st1.toNat (0, 0, 0, 0, 0, 0)).1, .int .i64 (h0.getD st1.toNat (0, 0, 0, 0, 0, 0)).2.1, .int .i64 (h0.getD st1.toNat (0, 0, 0, 0, 0, 0)).2.2.1, .int .i64 (h0.getD st1.toNat (0, 0, 0, 0, 0, 0)).2.2.2.1, .int .i64 (h0.getD st1.toNat (0, 0, 0, 0, 0, 0)).2.2.2.2.1, .int .i64 (h0.getD st1.toNat (0, 0, 0, 0, 0, 0)).2.2.2.2.2])] ?_
                refine zS 3 [(0, .sl Y1 h0), (3, .int .i64 st1), (4, .bp 4 0), (41, .bool (!v0_4))] [(4, .box 55 [.int .i64 (h0.getD st1.toNat (0, 0, 0, 0, 0, 0)).1, .int .i64 (h0.getD st1.toNat (0, 0, 0, 0, 0, 0)).2.1, .int .i64 (h0.getD st1.toNat (0, 0, 0, 0, 0, 0)).2.2.1, .int .i64 (h0.getD st1.toNat (0, 0, 0, 0, 0, 0)).2.2.2.1, .int .i64 (h0.getD st1.toNat (0, 0, 0, 0, 0, 0)).2.2.2.2.1, .int .i64 (h0.getD st1.toNat (0, 0, 0, 0, 0, 0)).2.2.2.2.2])] ?_
                rcases zI h with ⟨hb21, h⟩ | ⟨hb21, h⟩
                ·
                  refine zT [(0, .sl Y1 h0), (3, .int .i64 st1), (4, .bp 4 0), (41, .bool true)] [(4, .box 55 [.int .i64 (h0.getD st1.toNat (0, 0, 0, 0, 0, 0)).1, .int .i64 (h0.getD st1.toNat (0, 0, 0, 0, 0, 0)).2.1, .int .i64 (h0.getD st1.toNat (0, 0, 0, 0, 0, 0)).2.2.1, .int .i64 (h0.getD st1.toNat (0, 0, 0, 0, 0, 0)).2.2.2.1, .int .i64 (h0.getD st1.toNat (0, 0, 0, 0, 0, 0)).2.2.2.2.1, .int .i64 (h0.getD st1.toNat (0, 0, 0, 0, 0, 0)).2.2.2.2.2])] gt ?_
                  refine zS 4 [(0, .sl Y1 h0), (3, .int .i64 st1), (4, .bp 4 0), (41, .bool true), (45, .cv (undef))] [(4, .box 55 [.int .i64 (h0.getD st1.toNat (0, 0, 0, 0, 0, 0)).1, .int .i64 (h0.getD st1.toNat (0, 0, 0, 0, 0, 0)).2.1, .int .i64 (h0.getD st1.toNat (0, 0, 0, 0, 0, 0)).2.2.1, .int .i64 (h0.getD st1.toNat (0, 0, 0, 0, 0, 0)).2.2.2.1, .int .i64 (h0.getD st1.toNat (0, 0, 0, 0, 0, 0)).2.2.2.2.1, .int .i64 (h0.getD st1.toNat (0, 0, 0, 0, 0, 0)).2.2.2.2.2])] ?_
                  refine zB [(0, .sl Y1 h0), (3, .int .i64 st1), (4, .bp 4 0), (46, .bool true)] [(4, .box 55 [.int .i64 (h0.getD st1.toNat (0, 0, 0, 0, 0, 0)).1, .int .i64 (h0.getD st1.toNat (0, 0, 0, 0, 0, 0)).2.1, .int .i64 (h0.getD st1.toNat (0, 0, 0, 0, 0, 0)).2.2.1, .int .i64 (h0.getD st1.toNat (0, 0, 0, 0, 0, 0)).2.2.2.1, .int .i64 (h0.getD st1.toNat (0, 0, 0, 0, 0, 0)).2.2.2.2.1, .int .i64 (h0.getD st1.toNat (0, 0, 0, 0, 0, 0)).2.2.2.2.2])] ?_
                  refine AW.cond (b := true) rfl (fun _ => ?_) (fun hb22 => by cases hb22)
                  refine zo ?_
                  refine zB [(2, .bool false)] [] ?_
                  refine zr ?_
                  refine ablock_r ?_
                  refine athen_r ?_
                  obtain rfl := Option.some.inj h
                  rw [← hd4 _ rfl] at ho3
                  have h := ho3
                  try simp only at h
                  refine athen_r ?_
                  refine ablock_r ?_
                  refine athen_r ?_
                  obtain rfl := Option.some.inj h
                  exact zR [] [] []
                ·
                  refine zT [(0, .sl Y1 h0), (3, .int .i64 st1), (4, .bp 4 0), (41, .bool false)] [(4, .box 55 [.int .i64 (h0.getD st1.toNat (0, 0, 0, 0, 0, 0)).1, .int .i64 (h0.getD st1.toNat (0, 0, 0, 0, 0, 0)).2.1, .int .i64 (h0.getD st1.toNat (0, 0, 0, 0, 0, 0)).2.2.1, .int .i64 (h0.getD st1.toNat (0, 0, 0, 0, 0, 0)).2.2.2.1, .int .i64 (h0.getD st1.toNat (0, 0, 0, 0, 0, 0)).2.2.2.2.1, .int .i64 (h0.getD st1.toNat (0, 0, 0, 0, 0, 0)).2.2.2.2.2])] gt ?_
                  refine zS 2 [(0, .sl Y1 h0), (3, .int .i64 st1), (4, .bp 4 0), (41, .bool false), (43, .int .i64 (h0.getD st1.toNat (0, 0, 0, 0, 0, 0)).2.2.2.2.1)] [(4, .box 55 [.int .i64 (h0.getD st1.toNat (0, 0, 0, 0, 0, 0)).1, .int .i64 (h0.getD st1.toNat (0, 0, 0, 0, 0, 0)).2.1, .int .i64 (h0.getD st1.toNat (0, 0, 0, 0, 0, 0)).2.2.1, .int .i64 (h0.getD st1.toNat (0, 0, 0, 0, 0, 0)).2.2.2.1, .int .i64 (h0.getD st1.toNat (0, 0, 0, 0, 0, 0)).2.2.2.2.1, .int .i64 (h0.getD st1.toNat (0, 0, 0, 0, 0, 0)).2.2.2.2.2])] ?_
                  obtain ⟨v0_5, hv23, h⟩ := Option.bind_eq_some_iff.1 h
                  refine zG [] [] (hc_linealref02_within 1 (h0.getD st1.toNat (0, 0, 0, 0, 0, 0)).2.2.2.2.1 100 hv23) [(0, .sl Y1 h0), (3, .int .i64 st1), (4, .bp 4 0), (41, .bool false), (44, .bool v0_5)] [(4, .box 55 [.int .i64 (h0.getD st1.toNat (0, 0, 0, 0, 0, 0)).1, .int .i64 (h0.getD st1.toNat (0, 0, 0, 0, 0, 0)).2.1, .int .i64 (h0.getD st1.toNat (0, 0, 0, 0, 0, 0)).2.2.1, .int .i64 (h0.getD st1.toNat (0, 0, 0, 0, 0, 0)).2.2.2.1, .int .i64 (h0.getD st1.toNat (0, 0, 0, 0, 0, 0)).2.2.2.2.1, .int .i64 (h0.getD st1.toNat (0, 0, 0, 0, 0, 0)).2.2.2.2.2])] ?_
                  refine zB [(0, .sl Y1 h0), (3, .int .i64 st1), (4, .bp 4 0), (46, .bool (!v0_5))] [(4, .box 55 [.int .i64 (h0.getD st1.toNat (0, 0, 0, 0, 0, 0)).1, .int .i64 (h0.getD st1.toNat (0, 0, 0, 0, 0, 0)).2.1, .int .i64 (h0.getD st1.toNat (0, 0, 0, 0, 0, 0)).2.2.1, .int .i64 (h0.getD st1.toNat (0, 0, 0, 0, 0, 0)).2.2.2.1, .int .i64 (h0.getD st1.toNat (0, 0, 0, 0, 0, 0)).2.2.2.2.1, .int .i64 (h0.getD st1.toNat (0, 0, 0, 0, 0, 0)).2.2.2.2.2])] ?_
                  refine zQ h (fun hb24 h => ?_) (fun hb24 h => ?_)
                  ·
                    refine zo ?_
                    refine zB [(2, .bool false)] [] ?_
                    refine zr ?_
                    refine ablock_r ?_
                    refine athen_r ?_
                    obtain rfl := Option.some.inj h
                    rw [← hd4 _ rfl] at ho3
                    have h := ho3
                    try simp only at h
                    refine athen_r ?_
                    refine ablock_r ?_
                    refine athen_r ?_
                    obtain rfl := Option.some.inj h
                    exact zR [] [] []
                  ·
                    refine zk ?_
                    refine AW.have2 (fun _ : Unit => linealref02_Valid_k3 h0 st1 = some x5) (fun _ => ⟨fr [(0, .sl Y1 h0), (3, .int .i64 st1), (4, .bp 4 0), (5, .int .i64 0)], hpGet [(4, .box 55 [.int .i64 (h0.getD st1.toNat (0, 0, 0, 0, 0, 0)).1, .int .i64 (h0.getD st1.toNat (0, 0, 0, 0, 0, 0)).2.1, .int .i64 (h0.getD st1.toNat (0, 0, 0, 0, 0, 0)).2.2.1, .int .i64 (h0.getD st1.toNat (0, 0, 0, 0, 0, 0)).2.2.2.1, .int .i64 (h0.getD st1.toNat (0, 0, 0, 0, 0, 0)).2.2.2.2.1, .int .i64 (h0.getD st1.toNat (0, 0, 0, 0, 0, 0)).2.2.2.2.2])], gt⟩) (fun _ h => ?_) (fun hk_linealref02_Valid_k3 => ?_)
                    · unfold linealref02_Valid_k3 at h
                      refine AW.block ?_
                      obtain ⟨rv29, hw25, ho26⟩ := Option.bind_eq_some_iff.1 h
                      refine AW.loopO (linealref02_Valid_b2 h0 st1) (fun st2 => ⟨fr [(0, .sl Y1 h0), (3, .int .i64 st1), (4, .bp 4 0), (5, .int .i64 st2)], hpGet [(4, .box 55 [.int .i64 (h0.getD st1.toNat (0, 0, 0, 0, 0, 0)).1, .int .i64 (h0.getD st1.toNat (0, 0, 0, 0, 0, 0)).2.1, .int .i64 (h0.getD st1.toNat (0, 0, 0, 0, 0, 0)).2.2.1, .int .i64 (h0.getD st1.toNat (0, 0, 0, 0, 0, 0)).2.2.2.1, .int .i64 (h0.getD st1.toNat (0, 0, 0, 0, 0, 0)).2.2.2.2.1, .int .i64 (h0.getD st1.toNat (0, 0, 0, 0, 0, 0)).2.2.2.2.2])], gt⟩) 0 hw25 (zL [] [] []) ?_
                      intro st2 x28 h hd27
                      unfold linealref02_Valid_b2 at h
                      refine AW.seq ?_
                      refine zo ?_
                      refine zB [(0, .sl Y1 h0), (3, .int .i64 st1), (4, .bp 4 0), (5, .int .i64 st2), (71, .bool (decide (st2 < st1)))] [(4, .box 55 [.int .i64 (h0.getD st1.toNat (0, 0, 0, 0, 0, 0)).1, .int .i64 (h0.getD st1.toNat (0, 0, 0, 0, 0, 0)).2.1, .int .i64 (h0.getD st1.toNat (0, 0, 0, 0, 0, 0)).2.2.1, .int .i64 (h0.getD st1.toNat (0, 0, 0, 0, 0, 0)).2.2.2.1, .int .i64 (h0.getD st1.toNat (0, 0, 0, 0, 0, 0)).2.2.2.2.1, .int .i64 (h0.getD st1.toNat (0, 0, 0, 0, 0, 0)).2.2.2.2.2])] ?_
                      refine zQ h (fun hb30 h => ?_) (fun hb30 h => ?_)
                      ·
                        refine zk ?_
                        refine AW.seq ?_
                        refine AW.block ?_
                        refine AW.seq ?_
                        refine AW.draw tab_ok mixed_ok [] [] (by decide) (by kernel_rfl) ?_
                        obtain ⟨c32, h⟩ := ck_some.1 h
                        obtain ⟨c33, h⟩ := ck_some.1 h
                        refine adops_cut 5 (fun K' hK31 => ?_)
                        try dsimp only [List.drop_succ_cons, List.drop_zero, List.take_succ_cons, List.take_zero]
                        simp only [go_sem, hb1, hb7, hb12, hb15, hb18, hb21, hb24, hb30]
                        repeat (with_reducible refine And.intro (by first | assumption | rfl | omega | trivial | (unfold maxLen; omega)) ?_)
                        refine hK31 _ ?_
                        obtain ⟨v0_7, hv34, h⟩ := Option.bind_eq_some_iff.1 h
                        refine adops.call (by first | trivial | rfl) rfl rfl rfl (fun _ h => h) [] [] (hc_linealref02_meets (h0.getD st1.toNat (0, 0, 0, 0, 0, 0)) (h0.getD st2.toNat (0, 0, 0, 0, 0, 0)) hv34) rfl (by (simp only [go_sem, hb1, hb7, hb12, hb15, hb18, hb21, hb24, hb30]) <;> (with_reducible and_intros) <;> first | assumption | rfl | omega | (unfold maxLen; omega)) (by (simp only [go_sem, hb1, hb7, hb12, hb15, hb18, hb21, hb24, hb30]) <;> (with_reducible and_intros) <;> first | assumption | rfl | omega | (unfold maxLen; omega)) rfl ?_
                        refine adops_cut 0 (fun K' hK35 => ?_)
                        try dsimp only [List.drop_succ_cons, List.drop_zero, List.take_succ_cons, List.take_zero]
                        simp only [go_sem, hb1, hb7, hb12, hb15, hb18, hb21, hb24, hb30]
                        repeat (with_reducible refine And.intro (by first | assumption | rfl | omega | trivial | (unfold maxLen; omega)) ?_)
                        refine hK35 _ ?_
                        refine adops_nil ?_
                        refine athen_n ?_
                        refine zV [(0, .sl Y1 h0), (3, .int .i64 st1), (4, .bp 4 0), (5, .int .i64 st2), (79, .bool v0_7)] [(4, .box 55 [.int .i64 (h0.getD st1.toNat (0, 0, 0, 0, 0, 0)).1, .int .i64 (h0.getD st1.toNat (0, 0, 0, 0, 0, 0)).2.1, .int .i64 (h0.getD st1.toNat (0, 0, 0, 0, 0, 0)).2.2.1, .int .i64 (h0.getD st1.toNat (0, 0, 0, 0, 0, 0)).2.2.2.1, .int .i64 (h0.getD st1.toNat (0, 0, 0, 0, 0, 0)).2.2.2.2.1, .int .i64 (h0.getD st1.toNat (0, 0, 0, 0, 0, 0)).2.2.2.2.2])] gt ?_
                        refine zQ h (fun hb36 h => ?_) (fun hb36 h => ?_)
                        ·
                          refine zo ?_
                          refine zB [(2, .bool false)] [] ?_
                          refine AW.ret ?_
                          refine ablock_r ?_
                          refine athen_r ?_
                          obtain rfl := Option.some.inj h
                          rw [← hd27 _ rfl] at ho26
                          have h := ho26
                          try simp only at h
                          refine athen_r ?_
                          refine ablock_r ?_
                          refine ablock_r ?_
                          refine athen_r ?_
                          obtain rfl := Option.some.inj h
                          rw [← hd4 _ rfl] at ho3
                          have h := ho3
                          try simp only at h
                          refine athen_r ?_
                          refine ablock_r ?_
                          refine athen_r ?_
                          obtain rfl := Option.some.inj h
                          exact zR [] [] []
                        ·
                          refine zm ?_
                          refine athen_n ?_
                          refine AW.ops ?_
                          obtain ⟨c37, h⟩ := ck_some.1 h
                          refine zA [(0, .sl Y1 h0), (3, .int .i64 st1), (4, .bp 4 0), (5, .int .i64 (st2 + 1))] [(4, .box 55 [.int .i64 (h0.getD st1.toNat (0, 0, 0, 0, 0, 0)).1, .int .i64 (h0.getD st1.toNat (0, 0, 0, 0, 0, 0)).2.1, .int .i64 (h0.getD st1.toNat (0, 0, 0, 0, 0, 0)).2.2.1, .int .i64 (h0.getD st1.toNat (0, 0, 0, 0, 0, 0)).2.2.2.1, .int .i64 (h0.getD st1.toNat (0, 0, 0, 0, 0, 0)).2.2.2.2.1, .int .i64 (h0.getD st1.toNat (0, 0, 0, 0, 0, 0)).2.2.2.2.2])] ?_
                          obtain rfl := Option.some.inj h
                          exact ⟨_, rfl, zL [] [] []⟩
                      ·
                        refine AW.exit ?_
                        refine athen_e ?_
                        obtain rfl := Option.some.inj h
                        rw [← hd27 _ rfl] at ho26
                        have h := ho26
                        try simp only at h
                        refine athen_e ?_
                        refine ablock_s ?_
                        refine ablock_n ?_
                        refine athen_n ?_
                        exact AW.weaken (zL [] [] []) (hk_linealref02_Valid_k2 () h)
                    · refine AW.seq ?_
                      refine zo ?_
                      refine zS 4 [(0, .sl Y1 h0), (3, .int .i64 st1), (4, .bp 4 0), (50, .bool (decide ((h0.getD st1.toNat (0, 0, 0, 0, 0, 0)).2.2.2.2.2 = 0)))] [(4, .box 55 [.int .i64 (h0.getD st1.toNat (0, 0, 0, 0, 0, 0)).1, .int .i64 (h0.getD st1.toNat (0, 0, 0, 0, 0, 0)).2.1, .int .i64 (h0.getD st1.toNat (0, 0, 0, 0, 0, 0)).2.2.1, .int .i64 (h0.getD st1.toNat (0, 0, 0, 0, 0, 0)).2.2.2.1, .int .i64 (h0.getD st1.toNat (0, 0, 0, 0, 0, 0)).2.2.2.2.1, .int .i64 (h0.getD st1.toNat (0, 0, 0, 0, 0, 0)).2.2.2.2.2])] ?_
                      rcases zI h with ⟨hb38, h⟩ | ⟨hb38, h⟩
                      ·
                        refine zT [(0, .sl Y1 h0), (3, .int .i64 st1), (4, .bp 4 0), (50, .bool true)] [(4, .box 55 [.int .i64 (h0.getD st1.toNat (0, 0, 0, 0, 0, 0)).1, .int .i64 (h0.getD st1.toNat (0, 0, 0, 0, 0, 0)).2.1, .int .i64 (h0.getD st1.toNat (0, 0, 0, 0, 0, 0)).2.2.1, .int .i64 (h0.getD st1.toNat (0, 0, 0, 0, 0, 0)).2.2.2.1, .int .i64 (h0.getD st1.toNat (0, 0, 0, 0, 0, 0)).2.2.2.2.1, .int .i64 (h0.getD st1.toNat (0, 0, 0, 0, 0, 0)).2.2.2.2.2])] gt ?_
                        refine zS 5 [(0, .sl Y1 h0), (3, .int .i64 st1), (4, .bp 4 0), (55, .bool (!(decide ((h0.getD st1.toNat (0, 0, 0, 0, 0, 0)).2.2.2.1 = 0))))] [(4, .box 55 [.int .i64 (h0.getD st1.toNat (0, 0, 0, 0, 0, 0)).1, .int .i64 (h0.getD st1.toNat (0, 0, 0, 0, 0, 0)).2.1, .int .i64 (h0.getD st1.toNat (0, 0, 0, 0, 0, 0)).2.2.1, .int .i64 (h0.getD st1.toNat (0, 0, 0, 0, 0, 0)).2.2.2.1, .int .i64 (h0.getD st1.toNat (0, 0, 0, 0, 0, 0)).2.2.2.2.1, .int .i64 (h0.getD st1.toNat (0, 0, 0, 0, 0, 0)).2.2.2.2.2])] ?_
                        rcases zI h with ⟨hb39, h⟩ | ⟨hb39, h⟩
                        ·
                          refine zT [(0, .sl Y1 h0), (3, .int .i64 st1), (4, .bp 4 0), (55, .bool true)] [(4, .box 55 [.int .i64 (h0.getD st1.toNat (0, 0, 0, 0, 0, 0)).1, .int .i64 (h0.getD st1.toNat (0, 0, 0, 0, 0, 0)).2.1, .int .i64 (h0.getD st1.toNat (0, 0, 0, 0, 0, 0)).2.2.1, .int .i64 (h0.getD st1.toNat (0, 0, 0, 0, 0, 0)).2.2.2.1, .int .i64 (h0.getD st1.toNat (0, 0, 0, 0, 0, 0)).2.2.2.2.1, .int .i64 (h0.getD st1.toNat (0, 0, 0, 0, 0, 0)).2.2.2.2.2])] gt ?_
                          refine zS 4 [(0, .sl Y1 h0), (3, .int .i64 st1), (4, .bp 4 0), (55, .bool true), (59, .cv (undef))] [(4, .box 55 [.int .i64 (h0.getD st1.toNat (0, 0, 0, 0, 0, 0)).1, .int .i64 (h0.getD st1.toNat (0, 0, 0, 0, 0, 0)).2.1, .int .i64 (h0.getD st1.toNat (0, 0, 0, 0, 0, 0)).2.2.1, .int .i64 (h0.getD st1.toNat (0, 0, 0, 0, 0, 0)).2.2.2.1, .int .i64 (h0.getD st1.toNat (0, 0, 0, 0, 0, 0)).2.2.2.2.1, .int .i64 (h0.getD st1.toNat (0, 0, 0, 0, 0, 0)).2.2.2.2.2])] ?_
                          refine zS 4 [(0, .sl Y1 h0), (3, .int .i64 st1), (4, .bp 4 0), (55, .bool true), (59, .cv (undef)), (62, .cv (undef)), (63, .cv (undef))] [(4, .box 55 [.int .i64 (h0.getD st1.toNat (0, 0, 0, 0, 0, 0)).1, .int .i64 (h0.getD st1.toNat (0, 0, 0, 0, 0, 0)).2.1, .int .i64 (h0.getD st1.toNat (0, 0, 0, 0, 0, 0)).2.2.1, .int .i64 (h0.getD st1.toNat (0, 0, 0, 0, 0, 0)).2.2.2.1, .int .i64 (h0.getD st1.toNat (0, 0, 0, 0, 0, 0)).2.2.2.2.1, .int .i64 (h0.getD st1.toNat (0, 0, 0, 0, 0, 0)).2.2.2.2.2])] ?_
                          refine zS 4 [(0, .sl Y1 h0), (3, .int .i64 st1), (4, .bp 4 0), (55, .bool true), (67, .cv (undef))] [(4, .box 55 [.int .i64 (h0.getD st1.toNat (0, 0, 0, 0, 0, 0)).1, .int .i64 (h0.getD st1.toNat (0, 0, 0, 0, 0, 0)).2.1, .int .i64 (h0.getD st1.toNat (0, 0, 0, 0, 0, 0)).2.2.1, .int .i64 (h0.getD st1.toNat (0, 0, 0, 0, 0, 0)).2.2.2.1, .int .i64 (h0.getD st1.toNat (0, 0, 0, 0, 0, 0)).2.2.2.2.1, .int .i64 (h0.getD st1.toNat (0, 0, 0, 0, 0, 0)).2.2.2.2.2])] ?_
                          refine zB [(0, .sl Y1 h0), (3, .int .i64 st1), (4, .bp 4 0), (68, .bool true)] [(4, .box 55 [.int .i64 (h0.getD st1.toNat (0, 0, 0, 0, 0, 0)).1, .int .i64 (h0.getD st1.toNat (0, 0, 0, 0, 0, 0)).2.1, .int .i64 (h0.getD st1.toNat (0, 0, 0, 0, 0, 0)).2.2.1, .int .i64 (h0.getD st1.toNat (0, 0, 0, 0, 0, 0)).2.2.2.1, .int .i64 (h0.getD st1.toNat (0, 0, 0, 0, 0, 0)).2.2.2.2.1, .int .i64 (h0.getD st1.toNat (0, 0, 0, 0, 0, 0)).2.2.2.2.2])] ?_
                          refine AW.cond (b := true) rfl (fun _ => ?_) (fun hb40 => by cases hb40)
                          refine zo ?_
                          refine zB [(2, .bool false)] [] ?_
                          refine zr ?_
                          refine ablock_r ?_
                          refine athen_r ?_
                          obtain rfl := Option.some.inj h
                          rw [← hd4 _ rfl] at ho3
                          have h := ho3
                          try simp only at h
                          refine athen_r ?_
                          refine ablock_r ?_
                          refine athen_r ?_
                          obtain rfl := Option.some.inj h
                          exact zR [] [] []
                        ·
                          refine zT [(0, .sl Y1 h0), (3, .int .i64 st1), (4, .bp 4 0), (55, .bool false)] [(4, .box 55 [.int .i64 (h0.getD st1.toNat (0, 0, 0, 0, 0, 0)).1, .int .i64 (h0.getD st1.toNat (0, 0, 0, 0, 0, 0)).2.1, .int .i64 (h0.getD st1.toNat (0, 0, 0, 0, 0, 0)).2.2.1, .int .i64 (h0.getD st1.toNat (0, 0, 0, 0, 0, 0)).2.2.2.1, .int .i64 (h0.getD st1.toNat (0, 0, 0, 0, 0, 0)).2.2.2.2.1, .int .i64 (h0.getD st1.toNat (0, 0, 0, 0, 0, 0)).2.2.2.2.2])] gt ?_
                          refine zS 8 [(0, .sl Y1 h0), (3, .int .i64 st1), (4, .bp 4 0), (55, .bool false), (59, .bool false), (62, .cv (undef)), (63, .cv (undef))] [(4, .box 55 [.int .i64 (h0.getD st1.toNat (0, 0, 0, 0, 0, 0)).1, .int .i64 (h0.getD st1.toNat (0, 0, 0, 0, 0, 0)).2.1, .int .i64 (h0.getD st1.toNat (0, 0, 0, 0, 0, 0)).2.2.1, .int .i64 (h0.getD st1.toNat (0, 0, 0, 0, 0, 0)).2.2.2.1, .int .i64 (h0.getD st1.toNat (0, 0, 0, 0, 0, 0)).2.2.2.2.1, .int .i64 (h0.getD st1.toNat (0, 0, 0, 0, 0, 0)).2.2.2.2.2])] ?_
                          refine zB [(0, .sl Y1 h0), (3, .int .i64 st1), (4, .bp 4 0), (68, .bool false)] [(4, .box 55 [.int .i64 (h0.getD st1.toNat (0, 0, 0, 0, 0, 0)).1, .int .i64 (h0.getD st1.toNat (0, 0, 0, 0, 0, 0)).2.1, .int .i64 (h0.getD st1.toNat (0, 0, 0, 0, 0, 0)).2.2.1, .int .i64 (h0.getD st1.toNat (0, 0, 0, 0, 0, 0)).2.2.2.1, .int .i64 (h0.getD st1.toNat (0, 0, 0, 0, 0, 0)).2.2.2.2.1, .int .i64 (h0.getD st1.toNat (0, 0, 0, 0, 0, 0)).2.2.2.2.2])] ?_
                          refine AW.cond (b := false) rfl (fun hb41 => by cases hb41) (fun _ => ?_)
                          refine zk ?_
                          refine zo ?_
                          refine zB [(0, .sl Y1 h0), (3, .int .i64 st1), (4, .bp 4 0), (5, .int .i64 0)] [(4, .box 55 [.int .i64 (h0.getD st1.toNat (0, 0, 0, 0, 0, 0)).1, .int .i64 (h0.getD st1.toNat (0, 0, 0, 0, 0, 0)).2.1, .int .i64 (h0.getD st1.toNat (0, 0, 0, 0, 0, 0)).2.2.1, .int .i64 (h0.getD st1.toNat (0, 0, 0, 0, 0, 0)).2.2.2.1, .int .i64 (h0.getD st1.toNat (0, 0, 0, 0, 0, 0)).2.2.2.2.1, .int .i64 (h0.getD st1.toNat (0, 0, 0, 0, 0, 0)).2.2.2.2.2])] ?_
                          exact AW.weaken (zL [] [] []) (hk_linealref02_Valid_k3 () h)
                      ·
                        refine zT [(0, .sl Y1 h0), (3, .int .i64 st1), (4, .bp 4 0), (50, .bool false)] [(4, .box 55 [.int .i64 (h0.getD st1.toNat (0, 0, 0, 0, 0, 0)).1, .int .i64 (h0.getD st1.toNat (0, 0, 0, 0, 0, 0)).2.1, .int .i64 (h0.getD st1.toNat (0, 0, 0, 0, 0, 0)).2.2.1, .int .i64 (h0.getD st1.toNat (0, 0, 0, 0, 0, 0)).2.2.2.1, .int .i64 (h0.getD st1.toNat (0, 0, 0, 0, 0, 0)).2.2.2.2.1, .int .i64 (h0.getD st1.toNat (0, 0, 0, 0, 0, 0)).2.2.2.2.2])] gt ?_
                        obtain ⟨c42, h⟩ := ck_some.1 h
                        refine zS 14 [(0, .sl Y1 h0), (3, .int .i64 st1), (4, .bp 4 0), (55, .bool false), (59, .bool true), (62, .int .i64 ((h0.getD st1.toNat (0, 0, 0, 0, 0, 0)).2.2.2.2.1 + 1)), (64, .int .i64 (h0.getD st1.toNat (0, 0, 0, 0, 0, 0)).2.2.2.2.2)] [(4, .box 55 [.int .i64 (h0.getD st1.toNat (0, 0, 0, 0, 0, 0)).1, .int .i64 (h0.getD st1.toNat (0, 0, 0, 0, 0, 0)).2.1, .int .i64 (h0.getD st1.toNat (0, 0, 0, 0, 0, 0)).2.2.1, .int .i64 (h0.getD st1.toNat (0, 0, 0, 0, 0, 0)).2.2.2.1, .int .i64 (h0.getD st1.toNat (0, 0, 0, 0, 0, 0)).2.2.2.2.1, .int .i64 (h0.getD st1.toNat (0, 0, 0, 0, 0, 0)).2.2.2.2.2])] ?_
                        obtain ⟨v0_6, hv43, h⟩ := Option.bind_eq_some_iff.1 h
                        refine zG [] [] (hc_linealref02_within ((h0.getD st1.toNat (0, 0, 0, 0, 0, 0)).2.2.2.2.1 + 1) (h0.getD st1.toNat (0, 0, 0, 0, 0, 0)).2.2.2.2.2 100 hv43) [(0, .sl Y1 h0), (3, .int .i64 st1), (4, .bp 4 0), (55, .bool false), (59, .bool true), (65, .bool v0_6)] [(4, .box 55 [.int .i64 (h0.getD st1.toNat (0, 0, 0, 0, 0, 0)).1, .int .i64 (h0.getD st1.toNat (0, 0, 0, 0, 0, 0)).2.1, .int .i64 (h0.getD st1.toNat (0, 0, 0, 0, 0, 0)).2.2.1, .int .i64 (h0.getD st1.toNat (0, 0, 0, 0, 0, 0)).2.2.2.1, .int .i64 (h0.getD st1.toNat (0, 0, 0, 0, 0, 0)).2.2.2.2.1, .int .i64 (h0.getD st1.toNat (0, 0, 0, 0, 0, 0)).2.2.2.2.2])] ?_
                        refine zB [(0, .sl Y1 h0), (3, .int .i64 st1), (4, .bp 4 0), (68, .bool (!v0_6))] [(4, .box 55 [.int .i64 (h0.getD st1.toNat (0, 0, 0, 0, 0, 0)).1, .int .i64 (h0.getD st1.toNat (0, 0, 0, 0, 0, 0)).2.1, .int .i64 (h0.getD st1.toNat (0, 0, 0, 0, 0, 0)).2.2.1, .int .i64 (h0.getD st1.toNat (0, 0, 0, 0, 0, 0)).2.2.2.1, .int .i64 (h0.getD st1.toNat (0, 0, 0, 0, 0, 0)).2.2.2.2.1, .int .i64 (h0.getD st1.toNat (0, 0, 0, 0, 0, 0)).2.2.2.2.2])] ?_
                        refine zQ h (fun hb44 h => ?_) (fun hb44 h => ?_)
                        ·
                          refine zo ?_
                          refine zB [(2, .bool false)] [] ?_
                          refine zr ?_
                          refine ablock_r ?_
                          refine athen_r ?_
                          obtain rfl := Option.some.inj h
                          rw [← hd4 _ rfl] at ho3
                          have h := ho3
                          try simp only at h
                          refine athen_r ?_
                          refine ablock_r ?_
                          refine athen_r ?_
                          obtain rfl := Option.some.inj h
                          exact zR [] [] []
                        ·
                          refine zk ?_
                          refine zo ?_
                          refine zB [(0, .sl Y1 h0), (3, .int .i64 st1), (4, .bp 4 0), (5, .int .i64 0)] [(4, .box 55 [.int .i64 (h0.getD st1.toNat (0, 0, 0, 0, 0, 0)).1, .int .i64 (h0.getD st1.toNat (0, 0, 0, 0, 0, 0)).2.1, .int .i64 (h0.getD st1.toNat (0, 0, 0, 0, 0, 0)).2.2.1, .int .i64 (h0.getD st1.toNat (0, 0, 0, 0, 0, 0)).2.2.2.1, .int .i64 (h0.getD st1.toNat (0, 0, 0, 0, 0, 0)).2.2.2.2.1, .int .i64 (h0.getD st1.toNat (0, 0, 0, 0, 0, 0)).2.2.2.2.2])] ?_
                          exact AW.weaken (zL [] [] []) (hk_linealref02_Valid_k3 () h)
      ·
        refine AW.exit ?_
        refine athen_e ?_
        obtain rfl := Option.some.inj h
        rw [← hd4 _ rfl] at ho3
        have h := ho3
        try simp only at h
        refine athen_e ?_
        refine ablock_s ?_
        refine athen_n ?_
        exact AW.weaken (zL [] [] []) (hk_linealref02_Valid_k1 () h)

theorem hc_linealref02_isList (h0 : List (Int × Int × Int × Int × Int × Int)) (l : List Int) {r : Bool} (h : linealref02_isList h0 l = some r) : HC Try.prog 80 [] [.sl Y1 h0, .sl (.int .i64) l] [] (.bool r) := by
  unfold linealref02_isList at h
  refine zH Try.func80 [.tmp 4] 65 ?_
  refine zo ?_
  refine zB [(0, .sl Y1 h0), (1, .sl (.int .i64) l)] [] ?_
  refine AW.seq ?_
  refine zo ?_
  refine zB [(0, .sl Y1 h0), (1, .sl (.int .i64) l), (12, .bool (decide ((h0.length : Int) < (l.length : Int))))] [] ?_
  refine zQ h (fun hb1 h => ?_) (fun hb1 h => ?_)
  ·
    refine zo ?_
    refine zB [(4, .bool false)] [] ?_
    refine zr ?_
    obtain rfl := Option.some.inj h
    exact zR [] [] []
  ·
    refine zk ?_
    refine zo ?_
    obtain ⟨c2, h⟩ := ck_some.1 h
    refine zB [(0, .sl Y1 h0), (1, .sl (.int .i64) l), (5, .own 15)] [(15, .arr 4 .bool (List.replicate h0.length (false : Bool)))] ?_
    refine AW.have1 (fun b1 : (List Bool) => linealref02_isList_k1 h0 b1 = some r) (fun b1 => ⟨fr [(0, .sl Y1 h0), (5, .own 15)], hpGet [(15, .arr 4 .bool b1)], gt⟩) (fun b1 h => ?_) (fun hk_linealref02_isList_k1 => ?_)
    · unfold linealref02_isList_k1 at h
      refine AW.have1 (fun _ : Unit => linealref02_isList_k2 = some r) (fun _ => ⟨fr [], hpGet [], gt⟩) (fun _ h => ?_) (fun hk_linealref02_isList_k2 => ?_)
      · unfold linealref02_isList_k2 at h
        refine zo ?_
        refine zB [(4, .bool true)] [] ?_
        refine AW.ret ?_
        obtain rfl := Option.some.inj h
        exact zR [] [] []
      · refine AW.seq ?_
        refine zo ?_
        refine zB [(0, .sl Y1 h0), (5, .own 15), (7, .int .i64 0)] [(15, .arr 4 .bool b1)] ?_
        refine AW.block ?_
        obtain ⟨rv7, hw3, ho4⟩ := Option.bind_eq_some_iff.1 h
        refine AW.loopO (linealref02_isList_b2 h0 b1) (fun st2 => ⟨fr [(0, .sl Y1 h0), (5, .own 15), (7, .int .i64 st2)], hpGet [(15, .arr 4 .bool b1)], gt⟩) 0 hw3 (zL [] [] []) ?_
        intro st2 x6 h hd5
        unfold linealref02_isList_b2 at h
        refine AW.seq ?_
        refine zo ?_
        refine zB [(0, .sl Y1 h0), (5, .own 15), (7, .int .i64 st2), (49, .bool (decide (st2 < (h0.length : Int))))] [(15, .arr 4 .bool b1)] ?_
        refine zQ h (fun hb8 h => ?_) (fun hb8 h => ?_)
        ·
          refine zk ?_
          refine AW.seq ?_
          refine AW.block ?_
          refine zo ?_
          obtain ⟨c9, h⟩ := ck_some.1 h
          obtain ⟨c10, h⟩ := ck_some.1 h
          refine zS 7 [(0, .sl Y1 h0), (5, .own 15), (7, .int .i64 st2), (58, .bool (!(decide ((h0.getD st2.toNat (0, 0, 0, 0, 0, 0)).2.2.2.2.2 = 0))))] [(15, .arr 4 .bool b1)] ?_
          rcases zI h with ⟨hb11, h⟩ | ⟨hb11, h⟩
          ·
            refine zT [(0, .sl Y1 h0), (5, .own 15), (7, .int .i64 st2), (58, .bool true)] [(15, .arr 4 .bool b1)] gt ?_
            obtain ⟨c12, h⟩ := ck_some.1 h
            obtain ⟨c13, h⟩ := ck_some.1 h
            refine zB [(0, .sl Y1 h0), (5, .own 15), (7, .int .i64 st2), (64, .bool (!(b1.getD st2.toNat false)))] [(15, .arr 4 .bool b1)] ?_
            refine zQ h (fun hb14 h => ?_) (fun hb14 h => ?_)
            ·
              refine zo ?_
              refine zB [(4, .bool false)] [] ?_
              refine AW.ret ?_
              refine ablock_r ?_
              refine athen_r ?_
              obtain rfl := Option.some.inj h
              rw [← hd5 _ rfl] at ho4
              have h := ho4
              try simp only at h
              refine athen_r ?_
              refine ablock_r ?_
              refine athen_r ?_
              obtain rfl := Option.some.inj h
              exact zR [] [] []
            ·
              refine zm ?_
              refine athen_n ?_
              refine AW.ops ?_
              obtain ⟨c15, h⟩ := ck_some.1 h
              refine zA [(0, .sl Y1 h0), (5, .own 15), (7, .int .i64 (st2 + 1))] [(15, .arr 4 .bool b1)] ?_
              obtain rfl := Option.some.inj h
              exact ⟨_, rfl, zL [] [] []⟩
          ·
            refine zT [(0, .sl Y1 h0), (5, .own 15), (7, .int .i64 st2), (58, .bool false)] [(15, .arr 4 .bool b1)] gt ?_
            refine zS 4 [(0, .sl Y1 h0), (5, .own 15), (7, .int .i64 st2), (58, .bool false), (62, .cv (undef))] [(15, .arr 4 .bool b1)] ?_
            refine zB [(0, .sl Y1 h0), (5, .own 15), (7, .int .i64 st2), (64, .bool false)] [(15, .arr 4 .bool b1)] ?_
            refine AW.cond (b := false) rfl (fun hb16 => by cases hb16) (fun _ => ?_)
            refine zm ?_
            refine athen_n ?_
            refine AW.ops ?_
            obtain ⟨c17, h⟩ := ck_some.1 h
            refine zA [(0, .sl Y1 h0), (5, .own 15), (7, .int .i64 (st2 + 1))] [(15, .arr 4 .bool b1)] ?_
            obtain rfl := Option.some.inj h
            exact ⟨_, rfl, zL [] [] []⟩
        ·
          refine AW.exit ?_
          refine athen_e ?_
          obtain rfl := Option.some.inj h
          rw [← hd5 _ rfl] at ho4
          have h := ho4
          try simp only at h
          refine athen_e ?_
          refine ablock_s ?_
          refine athen_n ?_
          exact AW.weaken (zL [] [] []) (hk_linealref02_isList_k2 () h)
    · refine AW.seq ?_
      refine zo ?_
      refine zB [(0, .sl Y1 h0), (1, .sl (.int .i64) l), (5, .own 15), (6, .int .i64 0)] [(15, .arr 4 .bool (List.replicate h0.length (false : Bool)))] ?_
      refine AW.block ?_
      obtain ⟨rv22, hw18, ho19⟩ := Option.bind_eq_some_iff.1 h
      refine AW.loopO (linealref02_isList_b1 h0 l) (fun st1 => ⟨fr [(0, .sl Y1 h0), (1, .sl (.int .i64) l), (5, .own 15), (6, .int .i64 st1.2)], hpGet [(15, .arr 4 .bool st1.1)], gt⟩) ((List.replicate h0.length (false : Bool)), 0) hw18 (zL [] [] []) ?_
      intro st1 x21 h hd20
      unfold linealref02_isList_b1 at h
      refine AW.seq ?_
      refine zo ?_
      refine zB [(0, .sl Y1 h0), (1, .sl (.int .i64) l), (5, .own 15), (6, .int .i64 st1.2), (19, .bool (decide (st1.2 < (l.length : Int))))] [(15, .arr 4 .bool st1.1)] ?_
      refine zQ h (fun hb23 h => ?_) (fun hb23 h => ?_)
      ·
        refine zk ?_
        refine AW.seq ?_
        refine AW.block ?_
        refine AW.seq ?_
        refine zo ?_
        obtain ⟨c24, h⟩ := ck_some.1 h
        obtain ⟨c25, h⟩ := ck_some.1 h
        obtain ⟨c26, h⟩ := ck_some.1 h
        refine zS 7 [(0, .sl Y1 h0), (1, .sl (.int .i64) l), (5, .own 15), (6, .int .i64 st1.2), (25, .int .i64 (l.getD st1.2.toNat 0)), (28, .int .i64 ((h0.length : Int) - 1))] [(15, .arr 4 .bool st1.1)] ?_
        obtain ⟨v0, hv27, h⟩ := Option.bind_eq_some_iff.1 h
        refine zC [] [] (hc_linealref02_within 0 (l.getD st1.2.toNat 0) ((h0.length : Int) - 1) hv27) [(0, .sl Y1 h0), (1, .sl (.int .i64) l), (5, .own 15), (6, .int .i64 st1.2), (29, .bool v0)] [(15, .arr 4 .bool st1.1)] ?_
        refine zS 2 [(0, .sl Y1 h0), (1, .sl (.int .i64) l), (5, .own 15), (6, .int .i64 st1.2), (31, .bool (!v0))] [(15, .arr 4 .bool st1.1)] ?_
        rcases zI h with ⟨hb28, h⟩ | ⟨hb28, h⟩
        ·
          refine zT [(0, .sl Y1 h0), (1, .sl (.int .i64) l), (5, .own 15), (6, .int .i64 st1.2), (31, .bool true)] [(15, .arr 4 .bool st1.1)] gt ?_
          refine zS 4 [(0, .sl Y1 h0), (1, .sl (.int .i64) l), (5, .own 15), (6, .int .i64 st1.2), (31, .bool true), (32, .cv (undef)), (35, .cv (undef))] [(15, .arr 4 .bool st1.1)] ?_
          refine zB [(0, .sl Y1 h0), (1, .sl (.int .i64) l), (5, .own 15), (6, .int .i64 st1.2), (39, .bool true)] [(15, .arr 4 .bool st1.1)] ?_
          refine AW.cond (b := true) rfl (fun _ => ?_) (fun hb29 => by cases hb29)
          refine zo ?_
          refine zB [(4, .bool false)] [] ?_
          refine zr ?_
          refine ablock_r ?_
          refine athen_r ?_
          obtain rfl := Option.some.inj h
          rw [← hd20 _ rfl] at ho19
          have h := ho19
          try simp only at h
          refine athen_r ?_
          refine ablock_r ?_
          refine athen_r ?_
          obtain rfl := Option.some.inj h
          exact zR [] [] []
        ·
          refine zT [(0, .sl Y1 h0), (1, .sl (.int .i64) l), (5, .own 15), (6, .int .i64 st1.2), (31, .bool false)] [(15, .arr 4 .bool st1.1)] gt ?_
          obtain ⟨c30, h⟩ := ck_some.1 h
          obtain ⟨c31, h⟩ := ck_some.1 h
          obtain ⟨c32, h⟩ := ck_some.1 h
          obtain ⟨c33, h⟩ := ck_some.1 h
          refine zB [(0, .sl Y1 h0), (1, .sl (.int .i64) l), (5, .own 15), (6, .int .i64 st1.2), (39, .bool (st1.1.getD (l.getD st1.2.toNat 0).toNat false))] [(15, .arr 4 .bool st1.1)] ?_
          refine zQ h (fun hb34 h => ?_) (fun hb34 h => ?_)
          ·
            refine zo ?_
            refine zB [(4, .bool false)] [] ?_
            refine zr ?_
            refine ablock_r ?_
            refine athen_r ?_
            obtain rfl := Option.some.inj h
            rw [← hd20 _ rfl] at ho19
            have h := ho19
            try simp only at h
            refine athen_r ?_
            refine ablock_r ?_
            refine athen_r ?_
            obtain rfl := Option.some.inj h
            exact zR [] [] []
          ·
            refine zk ?_
            refine AW.ops ?_
            obtain ⟨c35, h⟩ := ck_some.1 h
            obtain ⟨c36, h⟩ := ck_some.1 h
            obtain ⟨c37, h⟩ := ck_some.1 h
            obtain ⟨c38, h⟩ := ck_some.1 h
            refine zA [(0, .sl Y1 h0), (1, .sl (.int .i64) l), (5, .own 15), (6, .int .i64 st1.2)] [(15, .arr 4 .bool (st1.1.set (l.getD st1.2.toNat 0).toNat true))] ?_
            refine ablock_n ?_
            refine athen_n ?_
            refine AW.ops ?_
            obtain ⟨c39, h⟩ := ck_some.1 h
            refine zA [(0, .sl Y1 h0), (1, .sl (.int .i64) l), (5, .own 15), (6, .int .i64 (st1.2 + 1))] [(15, .arr 4 .bool (st1.1.set (l.getD st1.2.toNat 0).toNat true))] ?_
            obtain rfl := Option.some.inj h
            exact ⟨_, rfl, zL [] [] []⟩
      ·
        refine AW.exit ?_
        refine athen_e ?_
        obtain rfl := Option.some.inj h
        rw [← hd20 _ rfl] at ho19
        have h := ho19
        try simp only at h
        refine athen_e ?_
        refine ablock_s ?_
        refine athen_n ?_
        exact AW.weaken (zL [] [] []) (hk_linealref02_isList_k1 _ h)

theorem hc_linealref02_keepsTime (h0 : List (Int × Int × Int × Int × Int × Int)) (l : List Int) {r : Bool} (h : linealref02_keepsTime h0 l = some r) : HC Try.prog 81 [] [.sl Y1 h0, .sl (.int .i64) l] [] (.bool r) := by
  unfold linealref02_keepsTime at h
  refine zH Try.func81 [.tmp 4] 33 ?_
  refine zo ?_
  refine zB [(0, .sl Y1 h0), (1, .sl (.int .i64) l)] [] ?_
  refine AW.have1 (fun _ : Unit => linealref02_keepsTime_k1 = some r) (fun _ => ⟨fr [], hpGet [], gt⟩) (fun _ h => ?_) (fun hk_linealref02_keepsTime_k1 => ?_)
  · unfold linealref02_keepsTime_k1 at h
    refine zo ?_
    refine zB [(4, .bool true)] [] ?_
    refine AW.ret ?_
    obtain rfl := Option.some.inj h
    exact zR [] [] []
  · refine AW.seq ?_
    refine zo ?_
    refine zB [(0, .sl Y1 h0), (1, .sl (.int .i64) l), (5, .int .i64 0)] [] ?_
    refine AW.block ?_
    obtain ⟨rv5, hw1, ho2⟩ := Option.bind_eq_some_iff.1 h
    refine AW.loopO (linealref02_keepsTime_b1 h0 l) (fun st1 => ⟨fr [(0, .sl Y1 h0), (1, .sl (.int .i64) l), (5, .int .i64 st1)], hpGet [], gt⟩) 0 hw1 (zL [] [] []) ?_
    intro st1 x4 h hd3
    unfold linealref02_keepsTime_b1 at h
    refine AW.seq ?_
    refine zo ?_
    refine zB [(0, .sl Y1 h0), (1, .sl (.int .i64) l), (5, .int .i64 st1), (10, .bool (decide (st1 < (l.length : Int))))] [] ?_
    refine zQ h (fun hb6 h => ?_) (fun hb6 h => ?_)
    ·
      refine zk ?_
      refine AW.have1 (fun _ : Unit => linealref02_keepsTime_k2 st1 = some x4) (fun _ => ⟨fr [(0, .sl Y1 h0), (1, .sl (.int .i64) l), (5, .int .i64 st1)], hpGet [], gt⟩) (fun _ h => ?_) (fun hk_linealref02_keepsTime_k2 => ?_)
      · unfold linealref02_keepsTime_k2 at h
        refine AW.ops ?_
        obtain ⟨c7, h⟩ := ck_some.1 h
        refine zA [(0, .sl Y1 h0), (1, .sl (.int .i64) l), (5, .int .i64 (st1 + 1))] [] ?_
        obtain rfl := Option.some.inj h
        exact ⟨_, rfl, zL [] [] []⟩
      · refine AW.seq ?_
        refine AW.block ?_
        refine zo ?_
        refine zB [(0, .sl Y1 h0), (1, .sl (.int .i64) l), (5, .int .i64 st1), (6, .int .i64 0)] [] ?_
        refine AW.block ?_
        obtain ⟨rv12, hw8, ho9⟩ := Option.bind_eq_some_iff.1 h
        refine AW.loopO (linealref02_keepsTime_b2 h0 l st1) (fun st2 => ⟨fr [(0, .sl Y1 h0), (1, .sl (.int .i64) l), (5, .int .i64 st1), (6, .int .i64 st2)], hpGet [], gt⟩) 0 hw8 (zL [] [] []) ?_
        intro st2 x11 h hd10
        unfold linealref02_keepsTime_b2 at h
        refine AW.seq ?_
        refine zo ?_
        refine zB [(0, .sl Y1 h0), (1, .sl (.int .i64) l), (5, .int .i64 st1), (6, .int .i64 st2), (15, .bool (decide (st2 < st1)))] [] ?_
        refine zQ h (fun hb13 h => ?_) (fun hb13 h => ?_)
        ·
          refine zk ?_
          refine AW.seq ?_
          refine AW.block ?_
          refine AW.seq ?_
          refine AW.draw tab_ok mixed_ok [] [] (by decide) (by kernel_rfl) ?_
          obtain ⟨c15, h⟩ := ck_some.1 h
          obtain ⟨c16, h⟩ := ck_some.1 h
          obtain ⟨c17, h⟩ := ck_some.1 h
          obtain ⟨c18, h⟩ := ck_some.1 h
          refine adops_cut 6 (fun K' hK14 => ?_)
          try dsimp only [List.drop_succ_cons, List.drop_zero, List.take_succ_cons, List.take_zero]
          simp only [go_sem, hb6, hb13]
          repeat (with_reducible refine And.intro (by first | assumption | rfl | omega | trivial | (unfold maxLen; omega)) ?_)
          refine hK14 _ ?_
          obtain ⟨c20, h⟩ := ck_some.1 h
          obtain ⟨c21, h⟩ := ck_some.1 h
          refine adops_cut 6 (fun K' hK19 => ?_)
          try dsimp only [List.drop_succ_cons, List.drop_zero, List.take_succ_cons, List.take_zero]
          simp only [go_sem, hb6, hb13]
          repeat (with_reducible refine And.intro (by first | assumption | rfl | omega | trivial | (unfold maxLen; omega)) ?_)
          refine hK19 _ ?_
          obtain ⟨c23, h⟩ := ck_some.1 h
          obtain ⟨c24, h⟩ := ck_some.1 h
          refine adops_cut 2 (fun K' hK22 => ?_)
          try dsimp only [List.drop_succ_cons, List.drop_zero, List.take_succ_cons, List.take_zero]
          simp only [go_sem, hb6, hb13]
          repeat (with_reducible refine And.intro (by first | assumption | rfl | omega | trivial | (unfold maxLen; omega)) ?_)
          refine hK22 _ ?_
          obtain ⟨v0, hv25, h⟩ := Option.bind_eq_some_iff.1 h
          refine adops.call (by first | trivial | rfl) rfl rfl rfl (fun _ h => h) [] [] (hc_linealref02_before (h0.getD (l.getD st1.toNat 0).toNat (0, 0, 0, 0, 0, 0)) (h0.getD (l.getD st2.toNat 0).toNat (0, 0, 0, 0, 0, 0)) hv25) rfl (by (simp only [go_sem, hb6, hb13]) <;> (with_reducible and_intros) <;> first | assumption | rfl | omega | (unfold maxLen; omega)) (by (simp only [go_sem, hb6, hb13]) <;> (with_reducible and_intros) <;> first | assumption | rfl | omega | (unfold maxLen; omega)) rfl ?_
          refine adops_cut 0 (fun K' hK26 => ?_)
          try dsimp only [List.drop_succ_cons, List.drop_zero, List.take_succ_cons, List.take_zero]
          simp only [go_sem, hb6, hb13]
          repeat (with_reducible refine And.intro (by first | assumption | rfl | omega | trivial | (unfold maxLen; omega)) ?_)
          refine hK26 _ ?_
          refine adops_nil ?_
          refine athen_n ?_
          refine zV [(0, .sl Y1 h0), (1, .sl (.int .i64) l), (5, .int .i64 st1), (6, .int .i64 st2), (32, .bool v0)] [] gt ?_
          refine zQ h (fun hb27 h => ?_) (fun hb27 h => ?_)
          ·
            refine zo ?_
            refine zB [(4, .bool false)] [] ?_
            refine AW.ret ?_
            refine ablock_r ?_
            refine athen_r ?_
            obtain rfl := Option.some.inj h
            rw [← hd10 _ rfl] at ho9
            have h := ho9
            try simp only at h
            refine athen_r ?_
            refine ablock_r ?_
            refine ablock_r ?_
            refine athen_r ?_
            obtain rfl := Option.some.inj h
            rw [← hd3 _ rfl] at ho2
            have h := ho2
            try simp only at h
            refine athen_r ?_
            refine ablock_r ?_
            refine athen_r ?_
            obtain rfl := Option.some.inj h
            exact zR [] [] []
          ·
            refine zm ?_
            refine athen_n ?_
            refine AW.ops ?_
            obtain ⟨c28, h⟩ := ck_some.1 h
            refine zA [(0, .sl Y1 h0), (1, .sl (.int .i64) l), (5, .int .i64 st1), (6, .int .i64 (st2 + 1))] [] ?_
            obtain rfl := Option.some.inj h
            exact ⟨_, rfl, zL [] [] []⟩
        ·
          refine AW.exit ?_
          refine athen_e ?_
          obtain rfl := Option.some.inj h
          rw [← hd10 _ rfl] at ho9
          have h := ho9
          try simp only at h
          refine athen_e ?_
          refine ablock_s ?_
          refine ablock_n ?_
          refine athen_n ?_
          exact AW.weaken (zL [] [] []) (hk_linealref02_keepsTime_k2 () h)
    ·
      refine AW.exit ?_
      refine athen_e ?_
      obtain rfl := Option.some.inj h
      rw [← hd3 _ rfl] at ho2
      have h := ho2
      try simp only at h
      refine athen_e ?_
      refine ablock_s ?_
      refine athen_n ?_
      exact AW.weaken (zL [] [] []) (hk_linealref02_keepsTime_k1 () h)

theorem hc_linealref02_keepsThreads (h0 : List (Int × Int × Int × Int × Int × Int)) (l : List Int) {r : Bool} (h : linealref02_keepsThreads h0 l = some r) : HC Try.prog 92 [] [.sl Y1 h0, .sl (.int .i64) l] [] (.bool r) := by
  unfold linealref02_keepsThreads at h
  refine zH Try.func92 [.tmp 4] 54 ?_
  refine zo ?_
  refine zB [(0, .sl Y1 h0), (1, .sl (.int .i64) l)] [] ?_
  refine AW.have1 (fun _ : Unit => linealref02_keepsThreads_k1 = some r) (fun _ => ⟨fr [], hpGet [], gt⟩) (fun _ h => ?_) (fun hk_linealref02_keepsThreads_k1 => ?_)
  · unfold linealref02_keepsThreads_k1 at h
    refine zo ?_
    refine zB [(4, .bool true)] [] ?_
    refine AW.ret ?_
    obtain rfl := Option.some.inj h
    exact zR [] [] []
  · refine AW.seq ?_
    refine zo ?_
    refine zB [(0, .sl Y1 h0), (1, .sl (.int .i64) l), (5, .int .i64 0)] [] ?_
    refine AW.block ?_
    obtain ⟨rv5, hw1, ho2⟩ := Option.bind_eq_some_iff.1 h
    refine AW.loopO (linealref02_keepsThreads_b1 h0 l) (fun st1 => ⟨fr [(0, .sl Y1 h0), (1, .sl (.int .i64) l), (5, .int .i64 st1)], hpGet [], gt⟩) 0 hw1 (zL [] [] []) ?_
    intro st1 x4 h hd3
    unfold linealref02_keepsThreads_b1 at h
    refine AW.seq ?_
    refine zo ?_
    refine zB [(0, .sl Y1 h0), (1, .sl (.int .i64) l), (5, .int .i64 st1), (10, .bool (decide (st1 < (l.length : Int))))] [] ?_
    refine zQ h (fun hb6 h => ?_) (fun hb6 h => ?_)
    ·
      refine zk ?_
      refine AW.have1 (fun _ : Unit => linealref02_keepsThreads_k2 st1 = some x4) (fun _ => ⟨fr [(0, .sl Y1 h0), (1, .sl (.int .i64) l), (5, .int .i64 st1)], hpGet [], gt⟩) (fun _ h => ?_) (fun hk_linealref02_keepsThreads_k2 => ?_)
      · unfold linealref02_keepsThreads_k2 at h
        refine AW.ops ?_
        obtain ⟨c7, h⟩ := ck_some.1 h
        refine zA [(0, .sl Y1 h0), (1, .sl (.int .i64) l), (5, .int .i64 (st1 + 1))] [] ?_
        obtain rfl := Option.some.inj h
        exact ⟨_, rfl, zL [] [] []⟩
      · refine AW.seq ?_
        refine AW.block ?_
        refine zo ?_
        refine zB [(0, .sl Y1 h0), (1, .sl (.int .i64) l), (5, .int .i64 st1), (6, .int .i64 0)] [] ?_
        refine AW.block ?_
        obtain ⟨rv12, hw8, ho9⟩ := Option.bind_eq_some_iff.1 h
        refine AW.loopO (linealref02_keepsThreads_b2 h0 l st1) (fun st2 => ⟨fr [(0, .sl Y1 h0), (1, .sl (.int .i64) l), (5, .int .i64 st1), (6, .int .i64 st2)], hpGet [], gt⟩) 0 hw8 (zL [] [] []) ?_
        intro st2 x11 h hd10
        unfold linealref02_keepsThreads_b2 at h
        refine AW.seq ?_
        refine zo ?_
        refine zB [(0, .sl Y1 h0), (1, .sl (.int .i64) l), (5, .int .i64 st1), (6, .int .i64 st2), (15, .bool (decide (st2 < st1)))] [] ?_
        refine zQ h (fun hb13 h => ?_) (fun hb13 h => ?_)
        ·
          refine zk ?_
          refine AW.seq ?_
          refine AW.block ?_
          refine AW.seq ?_
          refine AW.draw tab_ok mixed_ok [] [] (by decide) (lex_fast (by kernel_rfl)) ?_
          obtain ⟨c15, h⟩ := ck_some.1 h
          obtain ⟨c16, h⟩ := ck_some.1 h
          obtain ⟨c17, h⟩ := ck_some.1 h
          obtain ⟨c18, h⟩ := ck_some.1 h
          refine adops_cut 6 (fun K' hK14 => ?_)
          try dsimp only [List.drop_succ_cons, List.drop_zero, List.take_succ_cons, List.take_zero]
          simp only [go_sem, hb6, hb13]
          repeat (with_reducible refine And.intro (by first | assumption | rfl | omega | trivial | (unfold maxLen; omega)) ?_)
          refine hK14 _ ?_
          obtain ⟨c20, h⟩ := ck_some.1 h
          obtain ⟨c21, h⟩ := ck_some.1 h
          refine adops_cut 6 (fun K' hK19 => ?_)
          try dsimp only [List.drop_succ_cons, List.drop_zero, List.take_succ_cons, List.take_zero]
          simp only [go_sem, hb6, hb13]
          repeat (with_reducible refine And.intro (by first | assumption | rfl | omega | trivial | (unfold maxLen; omega)) ?_)
          refine hK19 _ ?_
          obtain ⟨c23, h⟩ := ck_some.1 h
          obtain ⟨c24, h⟩ := ck_some.1 h
          refine adops_cut 6 (fun K' hK22 => ?_)
          try dsimp only [List.drop_succ_cons, List.drop_zero, List.take_succ_cons, List.take_zero]
          simp only [go_sem, hb6, hb13]
          repeat (with_reducible refine And.intro (by first | assumption | rfl | omega | trivial | (unfold maxLen; omega)) ?_)
          refine hK22 _ ?_
          rcases zI h with ⟨hb25, h⟩ | ⟨hb25, h⟩
          ·
            simp only [hb25]
            obtain ⟨c27, h⟩ := ck_some.1 h
            obtain ⟨c28, h⟩ := ck_some.1 h
            obtain ⟨c29, h⟩ := ck_some.1 h
            obtain ⟨c30, h⟩ := ck_some.1 h
            refine adops_cut 6 (fun K' hK26 => ?_)
            try dsimp only [List.drop_succ_cons, List.drop_zero, List.take_succ_cons, List.take_zero]
            simp only [go_sem, hb6, hb13, hb25]
            repeat (with_reducible refine And.intro (by first | assumption | rfl | omega | trivial | (unfold maxLen; omega)) ?_)
            refine hK26 _ ?_
            obtain ⟨c32, h⟩ := ck_some.1 h
            obtain ⟨c33, h⟩ := ck_some.1 h
            refine adops_cut 6 (fun K' hK31 => ?_)
            try dsimp only [List.drop_succ_cons, List.drop_zero, List.take_succ_cons, List.take_zero]
            simp only [go_sem, hb6, hb13, hb25]
            repeat (with_reducible refine And.intro (by first | assumption | rfl | omega | trivial | (unfold maxLen; omega)) ?_)
            refine hK31 _ ?_
            obtain ⟨c35, h⟩ := ck_some.1 h
            obtain ⟨c36, h⟩ := ck_some.1 h
            refine adops_cut 6 (fun K' hK34 => ?_)
            try dsimp only [List.drop_succ_cons, List.drop_zero, List.take_succ_cons, List.take_zero]
            simp only [go_sem, hb6, hb13, hb25]
            repeat (with_reducible refine And.intro (by first | assumption | rfl | omega | trivial | (unfold maxLen; omega)) ?_)
            refine hK34 _ ?_
            refine adops_nil ?_
            refine athen_n ?_
            refine zV [(0, .sl Y1 h0), (1, .sl (.int .i64) l), (5, .int .i64 st1), (6, .int .i64 st2), (53, .bool (decide ((h0.getD (l.getD st1.toNat 0).toNat (0, 0, 0, 0, 0, 0)).2.2.2.2.1 < (h0.getD (l.getD st2.toNat 0).toNat (0, 0, 0, 0, 0, 0)).2.2.2.2.1)))] [] gt ?_
            refine zQ h (fun hb37 h => ?_) (fun hb37 h => ?_)
            ·
              refine zo ?_
              refine zB [(4, .bool false)] [] ?_
              refine AW.ret ?_
              refine ablock_r ?_
              refine athen_r ?_
              obtain rfl := Option.some.inj h
              rw [← hd10 _ rfl] at ho9
              have h := ho9
              try simp only at h
              refine athen_r ?_
              refine ablock_r ?_
              refine ablock_r ?_
              refine athen_r ?_
              obtain rfl := Option.some.inj h
              rw [← hd3 _ rfl] at ho2
              have h := ho2
              try simp only at h
              refine athen_r ?_
              refine ablock_r ?_
              refine athen_r ?_
              obtain rfl := Option.some.inj h
              exact zR [] [] []
            ·
              refine zm ?_
              refine athen_n ?_
              refine AW.ops ?_
              obtain ⟨c38, h⟩ := ck_some.1 h
              refine zA [(0, .sl Y1 h0), (1, .sl (.int .i64) l), (5, .int .i64 st1), (6, .int .i64 (st2 + 1))] [] ?_
              obtain rfl := Option.some.inj h
              exact ⟨_, rfl, zL [] [] []⟩
          ·
            simp only [hb25]
            refine adops_cut 4 (fun K' hK39 => ?_)
            try dsimp only [List.drop_succ_cons, List.drop_zero, List.take_succ_cons, List.take_zero]
            simp only [go_sem, hb6, hb13, hb25]
            repeat (with_reducible refine And.intro (by first | assumption | rfl | omega | trivial | (unfold maxLen; omega)) ?_)
            refine hK39 _ ?_
            refine adops_cut 4 (fun K' hK40 => ?_)
            try dsimp only [List.drop_succ_cons, List.drop_zero, List.take_succ_cons, List.take_zero]
            simp only [go_sem, hb6, hb13, hb25]
            repeat (with_reducible refine And.intro (by first | assumption | rfl | omega | trivial | (unfold maxLen; omega)) ?_)
            refine hK40 _ ?_
            refine adops_cut 4 (fun K' hK41 => ?_)
            try dsimp only [List.drop_succ_cons, List.drop_zero, List.take_succ_cons, List.take_zero]
            simp only [go_sem, hb6, hb13, hb25]
            repeat (with_reducible refine And.intro (by first | assumption | rfl | omega | trivial | (unfold maxLen; omega)) ?_)
            refine hK41 _ ?_
            refine adops_cut 4 (fun K' hK42 => ?_)
            try dsimp only [List.drop_succ_cons, List.drop_zero, List.take_succ_cons, List.take_zero]
            simp only [go_sem, hb6, hb13, hb25]
            repeat (with_reducible refine And.intro (by first | assumption | rfl | omega | trivial | (unfold maxLen; omega)) ?_)
            refine hK42 _ ?_
            refine adops_cut 2 (fun K' hK43 => ?_)
            try dsimp only [List.drop_succ_cons, List.drop_zero, List.take_succ_cons, List.take_zero]
            simp only [go_sem, hb6, hb13, hb25]
            repeat (with_reducible refine And.intro (by first | assumption | rfl | omega | trivial | (unfold maxLen; omega)) ?_)
            refine hK43 _ ?_
            refine adops_nil ?_
            refine athen_n ?_
            refine zV [(0, .sl Y1 h0), (1, .sl (.int .i64) l), (5, .int .i64 st1), (6, .int .i64 st2), (53, .bool false)] [] gt ?_
            refine AW.cond (b := false) rfl (fun hb44 => by cases hb44) (fun _ => ?_)
            refine zm ?_
            refine athen_n ?_
            refine AW.ops ?_
            obtain ⟨c45, h⟩ := ck_some.1 h
            refine zA [(0, .sl Y1 h0), (1, .sl (.int .i64) l), (5, .int .i64 st1), (6, .int .i64 (st2 + 1))] [] ?_
            obtain rfl := Option.some.inj h
            exact ⟨_, rfl, zL [] [] []⟩
        ·
          refine AW.exit ?_
          refine athen_e ?_
          obtain rfl := Option.some.inj h
          rw [← hd10 _ rfl] at ho9
          have h := ho9
          try simp only at h
          refine athen_e ?_
          refine ablock_s ?_
          refine ablock_n ?_
          refine athen_n ?_
          exact AW.weaken (zL [] [] []) (hk_linealref02_keepsThreads_k2 () h)
    ·
      refine AW.exit ?_
      refine athen_e ?_
      obtain rfl := Option.some.inj h
      rw [← hd3 _ rfl] at ho2
      have h := ho2
      try simp only at h
      refine athen_e ?_
      refine ablock_s ?_
      refine athen_n ?_
      exact AW.weaken (zL [] [] []) (hk_linealref02_keepsThreads_k1 () h)

theorem hc_lineallaw02_Large (specs : List (Int × Int × (List (List Int)) × (List (List Int)))) {r : Bool} (h : lineallaw02_Large specs = some r) : HC Try.prog 17 [] [.sl Y0 specs] [] (.bool r) := by
  unfold lineallaw02_Large at h
  refine zH Try.func17 [.tmp 2] 58 ?_
  refine zo ?_
  refine zB [(0, .sl Y0 specs)] [] ?_
  refine AW.have1 (fun _ : Unit => lineallaw02_Large_k1 specs = some r) (fun _ => ⟨fr [(0, .sl Y0 specs)], hpGet [], gt⟩) (fun _ h => ?_) (fun hk_lineallaw02_Large_k1 => ?_)
  · unfold lineallaw02_Large_k1 at h
    refine zo ?_
    refine zB [(2, .bool (decide (5 < (specs.length : Int))))] [] ?_
    refine AW.ret ?_
    obtain rfl := Option.some.inj h
    exact zR [] [] []
  · refine AW.seq ?_
    refine zo ?_
    refine zB [(0, .sl Y0 specs), (3, .int .i64 0)] [] ?_
    refine AW.block ?_
    obtain ⟨rv5, hw1, ho2⟩ := Option.bind_eq_some_iff.1 h
    refine AW.loopO (lineallaw02_Large_b1 specs) (fun st1 => ⟨fr [(0, .sl Y0 specs), (3, .int .i64 st1)], hpGet [], gt⟩) 0 hw1 (zL [] [] []) ?_
    intro st1 x4 h hd3
    unfold lineallaw02_Large_b1 at h
    refine AW.seq ?_
    refine zo ?_
    refine zB [(0, .sl Y0 specs), (3, .int .i64 st1), (10, .bool (decide (st1 < (specs.length : Int))))] [] ?_
    refine zQ h (fun hb6 h => ?_) (fun hb6 h => ?_)
    ·
      refine zk ?_
      refine AW.have1 (fun _ : Unit => lineallaw02_Large_k2 st1 = some x4) (fun _ => ⟨fr [(0, .sl Y0 specs), (3, .int .i64 st1)], hpGet [], gt⟩) (fun _ h => ?_) (fun hk_lineallaw02_Large_k2 => ?_)
      · unfold lineallaw02_Large_k2 at h
        refine AW.ops ?_
        obtain ⟨c7, h⟩ := ck_some.1 h
        refine zA [(0, .sl Y0 specs), (3, .int .i64 (st1 + 1))] [] ?_
        obtain rfl := Option.some.inj h
        exact ⟨_, rfl, zL [] [] []⟩
      · refine AW.seq ?_
        refine AW.block ?_
        refine zo ?_
        obtain ⟨c8, h⟩ := ck_some.1 h
        obtain ⟨c9, h⟩ := ck_some.1 h
        refine zB [(0, .sl Y0 specs), (3, .int .i64 st1), (4, .bp 4 0)] [(4, .box 64 [.int .i64 (specs.getD st1.toNat (0, 0, [], [])).1, .int .i64 (specs.getD st1.toNat (0, 0, [], [])).2.1, .sl (.sl (.int .i64)) (specs.getD st1.toNat (0, 0, [], [])).2.2.1, .sl (.sl (.int .i64)) (specs.getD st1.toNat (0, 0, [], [])).2.2.2])] ?_
        refine AW.seq ?_
        refine zo ?_
        refine zS 5 [(0, .sl Y0 specs), (3, .int .i64 st1), (4, .bp 4 0), (21, .bool (decide (20 < ((specs.getD st1.toNat (0, 0, [], [])).2.2.1.length : Int))))] [(4, .box 64 [.int .i64 (specs.getD st1.toNat (0, 0, [], [])).1, .int .i64 (specs.getD st1.toNat (0, 0, [], [])).2.1, .sl (.sl (.int .i64)) (specs.getD st1.toNat (0, 0, [], [])).2.2.1, .sl (.sl (.int .i64)) (specs.getD st1.toNat (0, 0, [], [])).2.2.2])] ?_
        rcases zI h with ⟨hb10, h⟩ | ⟨hb10, h⟩
        ·
          refine zT [(0, .sl Y0 specs), (3, .int .i64 st1), (4, .bp 4 0), (21, .bool true)] [(4, .box 64 [.int .i64 (specs.getD st1.toNat (0, 0, [], [])).1, .int .i64 (specs.getD st1.toNat (0, 0, [], [])).2.1, .sl (.sl (.int .i64)) (specs.getD st1.toNat (0, 0, [], [])).2.2.1, .sl (.sl (.int .i64)) (specs.getD st1.toNat (0, 0, [], [])).2.2.2])] gt ?_
          refine zS 4 [(0, .sl Y0 specs), (3, .int .i64 st1), (4, .bp 4 0), (21, .bool true), (25, .cv (undef))] [(4, .box 64 [.int .i64 (specs.getD st1.toNat (0, 0, [], [])).1, .int .i64 (specs.getD st1.toNat (0, 0, [], [])).2.1, .sl (.sl (.int .i64)) (specs.getD st1.toNat (0, 0, [], [])).2.2.1, .sl (.sl (.int .i64)) (specs.getD st1.toNat (0, 0, [], [])).2.2.2])] ?_
          refine zB [(0, .sl Y0 specs), (3, .int .i64 st1), (4, .bp 4 0), (26, .bool true)] [(4, .box 64 [.int .i64 (specs.getD st1.toNat (0, 0, [], [])).1, .int .i64 (specs.getD st1.toNat (0, 0, [], [])).2.1, .sl (.sl (.int .i64)) (specs.getD st1.toNat (0, 0, [], [])).2.2.1, .sl (.sl (.int .i64)) (specs.getD st1.toNat (0, 0, [], [])).2.2.2])] ?_
          refine AW.cond (b := true) rfl (fun _ => ?_) (fun hb11 => by cases hb11)
          refine zo ?_
          refine zB [(2, .bool true)] [] ?_
          refine zr ?_
          refine ablock_r ?_
          refine athen_r ?_
          obtain rfl := Option.some.inj h
          rw [← hd3 _ rfl] at ho2
          have h := ho2
          try simp only at h
          refine athen_r ?_
          refine ablock_r ?_
          refine athen_r ?_
          obtain rfl := Option.some.inj h
          exact zR [] [] []
        ·
          refine zT [(0, .sl Y0 specs), (3, .int .i64 st1), (4, .bp 4 0), (21, .bool false)] [(4, .box 64 [.int .i64 (specs.getD st1.toNat (0, 0, [], [])).1, .int .i64 (specs.getD st1.toNat (0, 0, [], [])).2.1, .sl (.sl (.int .i64)) (specs.getD st1.toNat (0, 0, [], [])).2.2.1, .sl (.sl (.int .i64)) (specs.getD st1.toNat (0, 0, [], [])).2.2.2])] gt ?_
          refine zB [(0, .sl Y0 specs), (3, .int .i64 st1), (4, .bp 4 0), (26, .bool (decide (20 < ((specs.getD st1.toNat (0, 0, [], [])).2.2.2.length : Int))))] [(4, .box 64 [.int .i64 (specs.getD st1.toNat (0, 0, [], [])).1, .int .i64 (specs.getD st1.toNat (0, 0, [], [])).2.1, .sl (.sl (.int .i64)) (specs.getD st1.toNat (0, 0, [], [])).2.2.1, .sl (.sl (.int .i64)) (specs.getD st1.toNat (0, 0, [], [])).2.2.2])] ?_
          refine zQ h (fun hb12 h => ?_) (fun hb12 h => ?_)
          ·
            refine zo ?_
            refine zB [(2, .bool true)] [] ?_
            refine zr ?_
            refine ablock_r ?_
            refine athen_r ?_
            obtain rfl := Option.some.inj h
            rw [← hd3 _ rfl] at ho2
            have h := ho2
            try simp only at h
            refine athen_r ?_
            refine ablock_r ?_
            refine athen_r ?_
            obtain rfl := Option.some.inj h
            exact zR [] [] []
          ·
            refine zk ?_
            refine AW.have1 (fun _ : Unit => lineallaw02_Large_k3 specs st1 = some x4) (fun _ => ⟨fr [(0, .sl Y0 specs), (3, .int .i64 st1), (4, .bp 4 0)], hpGet [(4, .box 64 [.int .i64 (specs.getD st1.toNat (0, 0, [], [])).1, .int .i64 (specs.getD st1.toNat (0, 0, [], [])).2.1, .sl (.sl (.int .i64)) (specs.getD st1.toNat (0, 0, [], [])).2.2.1, .sl (.sl (.int .i64)) (specs.getD st1.toNat (0, 0, [], [])).2.2.2])], gt⟩) (fun _ h => ?_) (fun hk_lineallaw02_Large_k3 => ?_)
            · unfold lineallaw02_Large_k3 at h
              refine zo ?_
              refine zB [(0, .sl Y0 specs), (3, .int .i64 st1), (4, .bp 4 0), (6, .int .i64 0)] [(4, .box 64 [.int .i64 (specs.getD st1.toNat (0, 0, [], [])).1, .int .i64 (specs.getD st1.toNat (0, 0, [], [])).2.1, .sl (.sl (.int .i64)) (specs.getD st1.toNat (0, 0, [], [])).2.2.1, .sl (.sl (.int .i64)) (specs.getD st1.toNat (0, 0, [], [])).2.2.2])] ?_
              refine AW.block ?_
              obtain ⟨rv17, hw13, ho14⟩ := Option.bind_eq_some_iff.1 h
              refine AW.loopO (lineallaw02_Large_b3 specs st1) (fun st3 => ⟨fr [(0, .sl Y0 specs), (3, .int .i64 st1), (4, .bp 4 0), (6, .int .i64 st3)], hpGet [(4, .box 64 [.int .i64 (specs.getD st1.toNat (0, 0, [], [])).1, .int .i64 (specs.getD st1.toNat (0, 0, [], [])).2.1, .sl (.sl (.int .i64)) (specs.getD st1.toNat (0, 0, [], [])).2.2.1, .sl (.sl (.int .i64)) (specs.getD st1.toNat (0, 0, [], [])).2.2.2])], gt⟩) 0 hw13 (zL [] [] []) ?_
              intro st3 x16 h hd15
              unfold lineallaw02_Large_b3 at h
              refine AW.seq ?_
              refine zo ?_
              refine zB [(0, .sl Y0 specs), (3, .int .i64 st1), (4, .bp 4 0), (6, .int .i64 st3), (45, .bool (decide (st3 < ((specs.getD st1.toNat (0, 0, [], [])).2.2.2.length : Int))))] [(4, .box 64 [.int .i64 (specs.getD st1.toNat (0, 0, [], [])).1, .int .i64 (specs.getD st1.toNat (0, 0, [], [])).2.1, .sl (.sl (.int .i64)) (specs.getD st1.toNat (0, 0, [], [])).2.2.1, .sl (.sl (.int .i64)) (specs.getD st1.toNat (0, 0, [], [])).2.2.2])] ?_
              refine zQ h (fun hb18 h => ?_) (fun hb18 h => ?_)
              ·
                refine zk ?_
                refine AW.seq ?_
                refine AW.block ?_
                refine zo ?_
                obtain ⟨c19, h⟩ := ck_some.1 h
                obtain ⟨c20, h⟩ := ck_some.1 h
                refine zB [(0, .sl Y0 specs), (3, .int .i64 st1), (4, .bp 4 0), (6, .int .i64 st3), (54, .bool (decide (20 < (((specs.getD st1.toNat (0, 0, [], [])).2.2.2.getD st3.toNat []).length : Int))))] [(4, .box 64 [.int .i64 (specs.getD st1.toNat (0, 0, [], [])).1, .int .i64 (specs.getD st1.toNat (0, 0, [], [])).2.1, .sl (.sl (.int .i64)) (specs.getD st1.toNat (0, 0, [], [])).2.2.1, .sl (.sl (.int .i64)) (specs.getD st1.toNat (0, 0, [], [])).2.2.2])] ?_
                refine zQ h (fun hb21 h => ?_) (fun hb21 h => ?_)
                ·
                  refine zo ?_
                  refine zB [(2, .bool true)] [] ?_
                  refine AW.ret ?_
                  refine ablock_r ?_
                  refine athen_r ?_
                  obtain rfl := Option.some.inj h
                  rw [← hd15 _ rfl] at ho14
                  have h := ho14
                  try simp only at h
                  refine athen_r ?_
                  refine ablock_r ?_
                  refine ablock_r ?_
                  refine athen_r ?_
                  obtain rfl := Option.some.inj h
                  rw [← hd3 _ rfl] at ho2
                  have h := ho2
                  try simp only at h
                  refine athen_r ?_
                  refine ablock_r ?_
                  refine athen_r ?_
                  obtain rfl := Option.some.inj h
                  exact zR [] [] []
                ·
                  refine zm ?_
                  refine athen_n ?_
                  refine AW.ops ?_
                  obtain ⟨c22, h⟩ := ck_some.1 h
                  refine zA [(0, .sl Y0 specs), (3, .int .i64 st1), (4, .bp 4 0), (6, .int .i64 (st3 + 1))] [(4, .box 64 [.int .i64 (specs.getD st1.toNat (0, 0, [], [])).1, .int .i64 (specs.getD st1.toNat (0, 0, [], [])).2.1, .sl (.sl (.int .i64)) (specs.getD st1.toNat (0, 0, [], [])).2.2.1, .sl (.sl (.int .i64)) (specs.getD st1.toNat (0, 0, [], [])).2.2.2])] ?_
                  obtain rfl := Option.some.inj h
                  exact ⟨_, rfl, zL [] [] []⟩
              ·
                refine AW.exit ?_
                refine athen_e ?_
                obtain rfl := Option.some.inj h
                rw [← hd15 _ rfl] at ho14
                have h := ho14
                try simp only at h
                refine athen_e ?_
                refine ablock_s ?_
                refine ablock_n ?_
                refine athen_n ?_
                exact AW.weaken (zL [] [] []) (hk_lineallaw02_Large_k2 () h)
            · refine AW.seq ?_
              refine zo ?_
              refine zB [(0, .sl Y0 specs), (3, .int .i64 st1), (4, .bp 4 0), (5, .int .i64 0)] [(4, .box 64 [.int .i64 (specs.getD st1.toNat (0, 0, [], [])).1, .int .i64 (specs.getD st1.toNat (0, 0, [], [])).2.1, .sl (.sl (.int .i64)) (specs.getD st1.toNat (0, 0, [], [])).2.2.1, .sl (.sl (.int .i64)) (specs.getD st1.toNat (0, 0, [], [])).2.2.2])] ?_
              refine AW.block ?_
              obtain ⟨rv27, hw23, ho24⟩ := Option.bind_eq_some_iff.1 h
              refine AW.loopO (lineallaw02_Large_b2 specs st1) (fun st2 => ⟨fr [(0, .sl Y0 specs), (3, .int .i64 st1), (4, .bp 4 0), (5, .int .i64 st2)], hpGet [(4, .box 64 [.int .i64 (specs.getD st1.toNat (0, 0, [], [])).1, .int .i64 (specs.getD st1.toNat (0, 0, [], [])).2.1, .sl (.sl (.int .i64)) (specs.getD st1.toNat (0, 0, [], [])).2.2.1, .sl (.sl (.int .i64)) (specs.getD st1.toNat (0, 0, [], [])).2.2.2])], gt⟩) 0 hw23 (zL [] [] []) ?_
              intro st2 x26 h hd25
              unfold lineallaw02_Large_b2 at h
              refine AW.seq ?_
              refine zo ?_
              refine zB [(0, .sl Y0 specs), (3, .int .i64 st1), (4, .bp 4 0), (5, .int .i64 st2), (31, .bool (decide (st2 < ((specs.getD st1.toNat (0, 0, [], [])).2.2.1.length : Int))))] [(4, .box 64 [.int .i64 (specs.getD st1.toNat (0, 0, [], [])).1, .int .i64 (specs.getD st1.toNat (0, 0, [], [])).2.1, .sl (.sl (.int .i64)) (specs.getD st1.toNat (0, 0, [], [])).2.2.1, .sl (.sl (.int .i64)) (specs.getD st1.toNat (0, 0, [], [])).2.2.2])] ?_
              refine zQ h (fun hb28 h => ?_) (fun hb28 h => ?_)
              ·
                refine zk ?_
                refine AW.seq ?_
                refine AW.block ?_
                refine zo ?_
                obtain ⟨c29, h⟩ := ck_some.1 h
                obtain ⟨c30, h⟩ := ck_some.1 h
                refine zB [(0, .sl Y0 specs), (3, .int .i64 st1), (4, .bp 4 0), (5, .int .i64 st2), (40, .bool (decide (20 < (((specs.getD st1.toNat (0, 0, [], [])).2.2.1.getD st2.toNat []).length : Int))))] [(4, .box 64 [.int .i64 (specs.getD st1.toNat (0, 0, [], [])).1, .int .i64 (specs.getD st1.toNat (0, 0, [], [])).2.1, .sl (.sl (.int .i64)) (specs.getD st1.toNat (0, 0, [], [])).2.2.1, .sl (.sl (.int .i64)) (specs.getD st1.toNat (0, 0, [], [])).2.2.2])] ?_
                refine zQ h (fun hb31 h => ?_) (fun hb31 h => ?_)
                ·
                  refine zo ?_
                  refine zB [(2, .bool true)] [] ?_
                  refine AW.ret ?_
                  refine ablock_r ?_
                  refine athen_r ?_
                  obtain rfl := Option.some.inj h
                  rw [← hd25 _ rfl] at ho24
                  have h := ho24
                  try simp only at h
                  refine athen_r ?_
                  refine ablock_r ?_
                  refine athen_r ?_
                  refine ablock_r ?_
                  refine athen_r ?_
                  obtain rfl := Option.some.inj h
                  rw [← hd3 _ rfl] at ho2
                  have h := ho2
                  try simp only at h
                  refine athen_r ?_
                  refine ablock_r ?_
                  refine athen_r ?_
                  obtain rfl := Option.some.inj h
                  exact zR [] [] []
                ·
                  refine zm ?_
                  refine athen_n ?_
                  refine AW.ops ?_
                  obtain ⟨c32, h⟩ := ck_some.1 h
                  refine zA [(0, .sl Y0 specs), (3, .int .i64 st1), (4, .bp 4 0), (5, .int .i64 (st2 + 1))] [(4, .box 64 [.int .i64 (specs.getD st1.toNat (0, 0, [], [])).1, .int .i64 (specs.getD st1.toNat (0, 0, [], [])).2.1, .sl (.sl (.int .i64)) (specs.getD st1.toNat (0, 0, [], [])).2.2.1, .sl (.sl (.int .i64)) (specs.getD st1.toNat (0, 0, [], [])).2.2.2])] ?_
                  obtain rfl := Option.some.inj h
                  exact ⟨_, rfl, zL [] [] []⟩
              ·
                refine AW.exit ?_
                refine athen_e ?_
                obtain rfl := Option.some.inj h
                rw [← hd25 _ rfl] at ho24
                have h := ho24
                try simp only at h
                refine athen_e ?_
                refine ablock_s ?_
                refine athen_n ?_
                exact AW.weaken (zL [] [] []) (hk_lineallaw02_Large_k3 () h)
    ·
      refine AW.exit ?_
      refine athen_e ?_
      obtain rfl := Option.some.inj h
      rw [← hd3 _ rfl] at ho2
      have h := ho2
      try simp only at h
      refine athen_e ?_
      refine ablock_s ?_
      refine athen_n ?_
      exact AW.weaken (zL [] [] []) (hk_lineallaw02_Large_k1 () h)

end Go.Proofs.Ytlfpagicagmjgaa
