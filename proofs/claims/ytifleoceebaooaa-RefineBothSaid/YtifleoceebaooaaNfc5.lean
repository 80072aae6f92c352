/-
  Made by wip/tool/dc.py out of the print of the program: contracts.
-/
import Derived.Test.YtifleoceebaooaaRfp
import Derived.Test.YtifleoceebaooaaShr
import Derived.Test.YtifleoceebaooaaNfc1
import Derived.Test.YtifleoceebaooaaNfc2
import Derived.Test.YtifleoceebaooaaNfc4
namespace Go.Proofs.Ytifleoceebaooaa
open Go.RowKit

set_option linter.unusedSimpArgs false
set_option linter.unusedVariables false
set_option linter.constructorNameAsVariable false

set_option maxRecDepth 100000
set_option maxHeartbeats 2000000

theorem hc_linealref05_Valid (s : Int × (List (Int × Int × Int))) {r : Bool} (h : linealref05_Valid s = some r) : HC Try.prog 21 [] [.agg [.int .i64 s.1, .sl (.pair (.int .i64) (.pair (.int .i64) (.int .i64))) s.2]] [] (.bool r) := by
 unfold linealref05_Valid at h
 refine zH Try.func21 [.tmp 2] 65 ?_
 refine zo ?_
 refine zB [(1, .bp 1 0)] [(1, .box 24 [.int .i64 s.1, .sl (.pair (.int .i64) (.pair (.int .i64) (.int .i64))) s.2])] ?_
 refine AW.seq ?_
 refine zo ?_
 refine zS 4 [(1, .bp 1 0), (10, .bool (decide (s.1 < 1)))] [(1, .box 24 [.int .i64 s.1, .sl (.pair (.int .i64) (.pair (.int .i64) (.int .i64))) s.2])] ?_
 rcases zI h with ⟨hb1, h⟩ | ⟨hb1, h⟩
 ·refine zS 5 [(1, .bp 1 0), (15, .bool true)] [(1, .box 24 [.int .i64 s.1, .sl (.pair (.int .i64) (.pair (.int .i64) (.int .i64))) s.2])] ?_
  refine zS 4 [(1, .bp 1 0), (15, .bool true), (19, .cv (undef))] [(1, .box 24 [.int .i64 s.1, .sl (.pair (.int .i64) (.pair (.int .i64) (.int .i64))) s.2])] ?_
  refine zB [(1, .bp 1 0), (20, .bool true)] [(1, .box 24 [.int .i64 s.1, .sl (.pair (.int .i64) (.pair (.int .i64) (.int .i64))) s.2])] ?_
  refine AW.cond (b := true) rfl (fun _ => ?_) (fun hb2 => by cases hb2)
  refine zo ?_
  refine zB [(2, .bool false)] [] ?_
  refine zr ?_
  obtain rfl := Option.some.inj h
  exact zR [] [] []
 ·refine zS 5 [(1, .bp 1 0), (15, .bool (decide (6 < s.1)))] [(1, .box 24 [.int .i64 s.1, .sl (.pair (.int .i64) (.pair (.int .i64) (.int .i64))) s.2])] ?_
  rcases zI h with ⟨hb3, h⟩ | ⟨hb3, h⟩
  ·refine zS 4 [(1, .bp 1 0), (15, .bool true), (19, .cv (undef))] [(1, .box 24 [.int .i64 s.1, .sl (.pair (.int .i64) (.pair (.int .i64) (.int .i64))) s.2])] ?_
   refine zB [(1, .bp 1 0), (20, .bool true)] [(1, .box 24 [.int .i64 s.1, .sl (.pair (.int .i64) (.pair (.int .i64) (.int .i64))) s.2])] ?_
   refine AW.cond (b := true) rfl (fun _ => ?_) (fun hb4 => by cases hb4)
   refine zo ?_
   refine zB [(2, .bool false)] [] ?_
   refine zr ?_
   obtain rfl := Option.some.inj h
   exact zR [] [] []
  ·refine zB [(1, .bp 1 0), (20, .bool (decide (24 < (s.2.length : Int))))] [(1, .box 24 [.int .i64 s.1, .sl (.pair (.int .i64) (.pair (.int .i64) (.int .i64))) s.2])] ?_
   refine zQ h (fun hb5 h => ?_) (fun hb5 h => ?_)
   ·refine zo ?_
    refine zB [(2, .bool false)] [] ?_
    refine zr ?_
    obtain rfl := Option.some.inj h
    exact zR [] [] []
   ·refine zk ?_
    refine AW.have1 (fun _ : Unit => linealref05_Valid_k1 = some r) (fun _ => ⟨fr [], hpGet [], gt⟩) (fun _ h => ?_) (fun hk_linealref05_Valid_k1 => ?_)
    ·as_aux_lemma =>
      unfold linealref05_Valid_k1 at h
      refine zo ?_
      refine zB [(2, .bool true)] [] ?_
      refine AW.ret ?_
      obtain rfl := Option.some.inj h
      exact zR [] [] []
    ·refine AW.seq ?_
     refine zo ?_
     refine zB [(1, .bp 1 0), (22, .sl (.pair (.int .i64) (.pair (.int .i64) (.int .i64))) s.2), (23, .int .i64 (s.2.length : Int)), (24, .int .i64 0)] [(1, .box 24 [.int .i64 s.1, .sl (.pair (.int .i64) (.pair (.int .i64) (.int .i64))) s.2])] ?_
     refine AW.block ?_
     obtain ⟨rv10, hw6, ho7⟩ := Option.bind_eq_some_iff.1 h
     refine AW.loopO (linealref05_Valid_b1 s) (fun st1 => ⟨fr [(1, .bp 1 0), (22, .sl (.pair (.int .i64) (.pair (.int .i64) (.int .i64))) s.2), (23, .int .i64 (s.2.length : Int)), (24, .int .i64 st1)], hpGet [(1, .box 24 [.int .i64 s.1, .sl (.pair (.int .i64) (.pair (.int .i64) (.int .i64))) s.2])], gt⟩) 0 hw6 (zL [] [] []) ?_
     as_aux_lemma =>
      intro st1 x9 h hd8
      unfold linealref05_Valid_b1 at h
      refine zo ?_
      refine zB [(1, .bp 1 0), (22, .sl (.pair (.int .i64) (.pair (.int .i64) (.int .i64))) s.2), (23, .int .i64 (s.2.length : Int)), (24, .int .i64 st1), (25, .bool (decide (st1 < (s.2.length : Int))))] [(1, .box 24 [.int .i64 s.1, .sl (.pair (.int .i64) (.pair (.int .i64) (.int .i64))) s.2])] ?_
      refine AW.seq ?_
      refine zQ h (fun hb11 h => ?_) (fun hb11 h => ?_)
      ·refine zk ?_
       refine AW.have1 (fun _ : Unit => linealref05_Valid_k2 st1 = some x9) (fun _ => ⟨fr [(1, .bp 1 0), (22, .sl (.pair (.int .i64) (.pair (.int .i64) (.int .i64))) s.2), (23, .int .i64 (s.2.length : Int)), (24, .int .i64 st1)], hpGet [(1, .box 24 [.int .i64 s.1, .sl (.pair (.int .i64) (.pair (.int .i64) (.int .i64))) s.2])], gt⟩) (fun _ h => ?_) (fun hk_linealref05_Valid_k2 => ?_)
       ·as_aux_lemma =>
         unfold linealref05_Valid_k2 at h
         refine AW.ops ?_
         obtain ⟨c12, h⟩ := ck_some.1 h
         refine zA [(1, .bp 1 0), (22, .sl (.pair (.int .i64) (.pair (.int .i64) (.int .i64))) s.2), (23, .int .i64 (s.2.length : Int)), (24, .int .i64 (st1 + 1))] [(1, .box 24 [.int .i64 s.1, .sl (.pair (.int .i64) (.pair (.int .i64) (.int .i64))) s.2])] ?_
         obtain rfl := Option.some.inj h
         exact ⟨_, rfl, zL [] [] []⟩
       ·refine AW.seq ?_
        refine AW.block ?_
        refine zo ?_
        obtain ⟨c13, h⟩ := ck_some.1 h
        obtain ⟨c14, h⟩ := ck_some.1 h
        refine zS 5 [(1, .bp 1 0), (3, .int .i64 st1), (4, .bp 4 0), (22, .sl (.pair (.int .i64) (.pair (.int .i64) (.int .i64))) s.2), (23, .int .i64 (s.2.length : Int)), (24, .int .i64 st1), (28, .agg [.int .i64 (s.2.getD st1.toNat (0, 0, 0)).1, .int .i64 (s.2.getD st1.toNat (0, 0, 0)).2.1, .int .i64 (s.2.getD st1.toNat (0, 0, 0)).2.2])] [(1, .box 24 [.int .i64 s.1, .sl (.pair (.int .i64) (.pair (.int .i64) (.int .i64))) s.2]), (4, .box 66 [.int .i64 0, .int .i64 0, .int .i64 0])] ?_
        refine zB [(1, .bp 1 0), (3, .int .i64 st1), (4, .bp 4 0), (22, .sl (.pair (.int .i64) (.pair (.int .i64) (.int .i64))) s.2), (23, .int .i64 (s.2.length : Int)), (24, .int .i64 st1)] [(1, .box 24 [.int .i64 s.1, .sl (.pair (.int .i64) (.pair (.int .i64) (.int .i64))) s.2]), (4, .box 66 [.int .i64 (s.2.getD st1.toNat (0, 0, 0)).1, .int .i64 (s.2.getD st1.toNat (0, 0, 0)).2.1, .int .i64 (s.2.getD st1.toNat (0, 0, 0)).2.2])] ?_
        refine AW.seq ?_
        refine zo ?_
        refine zS 3 [(1, .bp 1 0), (3, .int .i64 st1), (4, .bp 4 0), (22, .sl (.pair (.int .i64) (.pair (.int .i64) (.int .i64))) s.2), (23, .int .i64 (s.2.length : Int)), (24, .int .i64 st1), (29, .agg [.int .i64 s.1, .sl (.pair (.int .i64) (.pair (.int .i64) (.int .i64))) s.2]), (31, .int .i64 (s.2.getD st1.toNat (0, 0, 0)).1)] [(1, .box 24 [.int .i64 s.1, .sl (.pair (.int .i64) (.pair (.int .i64) (.int .i64))) s.2]), (4, .box 66 [.int .i64 (s.2.getD st1.toNat (0, 0, 0)).1, .int .i64 (s.2.getD st1.toNat (0, 0, 0)).2.1, .int .i64 (s.2.getD st1.toNat (0, 0, 0)).2.2])] ?_
        obtain ⟨v0, hv15, h⟩ := Option.bind_eq_some_iff.1 h
        refine zC [] [] (hc_linealref05_IsState s (s.2.getD st1.toNat (0, 0, 0)).1 hv15) [(1, .bp 1 0), (3, .int .i64 st1), (4, .bp 4 0), (22, .sl (.pair (.int .i64) (.pair (.int .i64) (.int .i64))) s.2), (23, .int .i64 (s.2.length : Int)), (24, .int .i64 st1), (32, .bool v0)] [(1, .box 24 [.int .i64 s.1, .sl (.pair (.int .i64) (.pair (.int .i64) (.int .i64))) s.2]), (4, .box 66 [.int .i64 (s.2.getD st1.toNat (0, 0, 0)).1, .int .i64 (s.2.getD st1.toNat (0, 0, 0)).2.1, .int .i64 (s.2.getD st1.toNat (0, 0, 0)).2.2])] ?_
        refine zS 2 [(1, .bp 1 0), (3, .int .i64 st1), (4, .bp 4 0), (22, .sl (.pair (.int .i64) (.pair (.int .i64) (.int .i64))) s.2), (23, .int .i64 (s.2.length : Int)), (24, .int .i64 st1), (34, .bool (!v0))] [(1, .box 24 [.int .i64 s.1, .sl (.pair (.int .i64) (.pair (.int .i64) (.int .i64))) s.2]), (4, .box 66 [.int .i64 (s.2.getD st1.toNat (0, 0, 0)).1, .int .i64 (s.2.getD st1.toNat (0, 0, 0)).2.1, .int .i64 (s.2.getD st1.toNat (0, 0, 0)).2.2])] ?_
        rcases zI h with ⟨hb16, h⟩ | ⟨hb16, h⟩
        ·refine zS 4 [(1, .bp 1 0), (3, .int .i64 st1), (4, .bp 4 0), (22, .sl (.pair (.int .i64) (.pair (.int .i64) (.int .i64))) s.2), (23, .int .i64 (s.2.length : Int)), (24, .int .i64 st1), (34, .bool true), (38, .cv (undef))] [(1, .box 24 [.int .i64 s.1, .sl (.pair (.int .i64) (.pair (.int .i64) (.int .i64))) s.2]), (4, .box 66 [.int .i64 (s.2.getD st1.toNat (0, 0, 0)).1, .int .i64 (s.2.getD st1.toNat (0, 0, 0)).2.1, .int .i64 (s.2.getD st1.toNat (0, 0, 0)).2.2])] ?_
         refine zS 5 [(1, .bp 1 0), (3, .int .i64 st1), (4, .bp 4 0), (22, .sl (.pair (.int .i64) (.pair (.int .i64) (.int .i64))) s.2), (23, .int .i64 (s.2.length : Int)), (24, .int .i64 st1), (41, .bool true), (43, .cv (undef))] [(1, .box 24 [.int .i64 s.1, .sl (.pair (.int .i64) (.pair (.int .i64) (.int .i64))) s.2]), (4, .box 66 [.int .i64 (s.2.getD st1.toNat (0, 0, 0)).1, .int .i64 (s.2.getD st1.toNat (0, 0, 0)).2.1, .int .i64 (s.2.getD st1.toNat (0, 0, 0)).2.2])] ?_
         refine zS 5 [(1, .bp 1 0), (3, .int .i64 st1), (4, .bp 4 0), (22, .sl (.pair (.int .i64) (.pair (.int .i64) (.int .i64))) s.2), (23, .int .i64 (s.2.length : Int)), (24, .int .i64 st1), (46, .bool true), (48, .cv (undef))] [(1, .box 24 [.int .i64 s.1, .sl (.pair (.int .i64) (.pair (.int .i64) (.int .i64))) s.2]), (4, .box 66 [.int .i64 (s.2.getD st1.toNat (0, 0, 0)).1, .int .i64 (s.2.getD st1.toNat (0, 0, 0)).2.1, .int .i64 (s.2.getD st1.toNat (0, 0, 0)).2.2])] ?_
         refine zB [(1, .bp 1 0), (3, .int .i64 st1), (4, .bp 4 0), (22, .sl (.pair (.int .i64) (.pair (.int .i64) (.int .i64))) s.2), (23, .int .i64 (s.2.length : Int)), (24, .int .i64 st1), (50, .bool true)] [(1, .box 24 [.int .i64 s.1, .sl (.pair (.int .i64) (.pair (.int .i64) (.int .i64))) s.2]), (4, .box 66 [.int .i64 (s.2.getD st1.toNat (0, 0, 0)).1, .int .i64 (s.2.getD st1.toNat (0, 0, 0)).2.1, .int .i64 (s.2.getD st1.toNat (0, 0, 0)).2.2])] ?_
         refine AW.cond (b := true) rfl (fun _ => ?_) (fun hb17 => by cases hb17)
         refine zo ?_
         refine zB [(2, .bool false)] [] ?_
         refine zr ?_
         refine ablock_r ?_
         refine athen_r ?_
         obtain rfl := Option.some.inj h
         rw [← hd8 _ rfl] at ho7
         have h := ho7
         try simp only at h
         refine athen_r ?_
         refine ablock_r ?_
         refine athen_r ?_
         obtain rfl := Option.some.inj h
         exact zR [] [] []
        ·refine zS 3 [(1, .bp 1 0), (3, .int .i64 st1), (4, .bp 4 0), (22, .sl (.pair (.int .i64) (.pair (.int .i64) (.int .i64))) s.2), (23, .int .i64 (s.2.length : Int)), (24, .int .i64 st1), (34, .bool false), (35, .agg [.int .i64 s.1, .sl (.pair (.int .i64) (.pair (.int .i64) (.int .i64))) s.2]), (37, .int .i64 (s.2.getD st1.toNat (0, 0, 0)).2.2)] [(1, .box 24 [.int .i64 s.1, .sl (.pair (.int .i64) (.pair (.int .i64) (.int .i64))) s.2]), (4, .box 66 [.int .i64 (s.2.getD st1.toNat (0, 0, 0)).1, .int .i64 (s.2.getD st1.toNat (0, 0, 0)).2.1, .int .i64 (s.2.getD st1.toNat (0, 0, 0)).2.2])] ?_
         obtain ⟨v0_2, hv18, h⟩ := Option.bind_eq_some_iff.1 h
         refine zG [] [] (hc_linealref05_IsState s (s.2.getD st1.toNat (0, 0, 0)).2.2 hv18) [(1, .bp 1 0), (3, .int .i64 st1), (4, .bp 4 0), (22, .sl (.pair (.int .i64) (.pair (.int .i64) (.int .i64))) s.2), (23, .int .i64 (s.2.length : Int)), (24, .int .i64 st1), (34, .bool false), (38, .bool v0_2)] [(1, .box 24 [.int .i64 s.1, .sl (.pair (.int .i64) (.pair (.int .i64) (.int .i64))) s.2]), (4, .box 66 [.int .i64 (s.2.getD st1.toNat (0, 0, 0)).1, .int .i64 (s.2.getD st1.toNat (0, 0, 0)).2.1, .int .i64 (s.2.getD st1.toNat (0, 0, 0)).2.2])] ?_
         refine zS 3 [(1, .bp 1 0), (3, .int .i64 st1), (4, .bp 4 0), (22, .sl (.pair (.int .i64) (.pair (.int .i64) (.int .i64))) s.2), (23, .int .i64 (s.2.length : Int)), (24, .int .i64 st1), (41, .bool (!v0_2))] [(1, .box 24 [.int .i64 s.1, .sl (.pair (.int .i64) (.pair (.int .i64) (.int .i64))) s.2]), (4, .box 66 [.int .i64 (s.2.getD st1.toNat (0, 0, 0)).1, .int .i64 (s.2.getD st1.toNat (0, 0, 0)).2.1, .int .i64 (s.2.getD st1.toNat (0, 0, 0)).2.2])] ?_
         rcases zI h with ⟨hb19, h⟩ | ⟨hb19, h⟩
         ·refine zS 5 [(1, .bp 1 0), (3, .int .i64 st1), (4, .bp 4 0), (22, .sl (.pair (.int .i64) (.pair (.int .i64) (.int .i64))) s.2), (23, .int .i64 (s.2.length : Int)), (24, .int .i64 st1), (46, .bool true)] [(1, .box 24 [.int .i64 s.1, .sl (.pair (.int .i64) (.pair (.int .i64) (.int .i64))) s.2]), (4, .box 66 [.int .i64 (s.2.getD st1.toNat (0, 0, 0)).1, .int .i64 (s.2.getD st1.toNat (0, 0, 0)).2.1, .int .i64 (s.2.getD st1.toNat (0, 0, 0)).2.2])] ?_
          refine zB [(1, .bp 1 0), (3, .int .i64 st1), (4, .bp 4 0), (22, .sl (.pair (.int .i64) (.pair (.int .i64) (.int .i64))) s.2), (23, .int .i64 (s.2.length : Int)), (24, .int .i64 st1), (50, .bool true)] [(1, .box 24 [.int .i64 s.1, .sl (.pair (.int .i64) (.pair (.int .i64) (.int .i64))) s.2]), (4, .box 66 [.int .i64 (s.2.getD st1.toNat (0, 0, 0)).1, .int .i64 (s.2.getD st1.toNat (0, 0, 0)).2.1, .int .i64 (s.2.getD st1.toNat (0, 0, 0)).2.2])] ?_
          refine AW.cond (b := true) rfl (fun _ => ?_) (fun hb20 => by cases hb20)
          refine zo ?_
          refine zB [(2, .bool false)] [] ?_
          refine zr ?_
          refine ablock_r ?_
          refine athen_r ?_
          obtain rfl := Option.some.inj h
          rw [← hd8 _ rfl] at ho7
          have h := ho7
          try simp only at h
          refine athen_r ?_
          refine ablock_r ?_
          refine athen_r ?_
          obtain rfl := Option.some.inj h
          exact zR [] [] []
         ·refine zS 5 [(1, .bp 1 0), (3, .int .i64 st1), (4, .bp 4 0), (22, .sl (.pair (.int .i64) (.pair (.int .i64) (.int .i64))) s.2), (23, .int .i64 (s.2.length : Int)), (24, .int .i64 st1), (46, .bool (decide ((s.2.getD st1.toNat (0, 0, 0)).2.1 < 0)))] [(1, .box 24 [.int .i64 s.1, .sl (.pair (.int .i64) (.pair (.int .i64) (.int .i64))) s.2]), (4, .box 66 [.int .i64 (s.2.getD st1.toNat (0, 0, 0)).1, .int .i64 (s.2.getD st1.toNat (0, 0, 0)).2.1, .int .i64 (s.2.getD st1.toNat (0, 0, 0)).2.2])] ?_
          rcases zI h with ⟨hb21, h⟩ | ⟨hb21, h⟩
          ·refine zB [(1, .bp 1 0), (3, .int .i64 st1), (4, .bp 4 0), (22, .sl (.pair (.int .i64) (.pair (.int .i64) (.int .i64))) s.2), (23, .int .i64 (s.2.length : Int)), (24, .int .i64 st1), (50, .bool true)] [(1, .box 24 [.int .i64 s.1, .sl (.pair (.int .i64) (.pair (.int .i64) (.int .i64))) s.2]), (4, .box 66 [.int .i64 (s.2.getD st1.toNat (0, 0, 0)).1, .int .i64 (s.2.getD st1.toNat (0, 0, 0)).2.1, .int .i64 (s.2.getD st1.toNat (0, 0, 0)).2.2])] ?_
           refine AW.cond (b := true) rfl (fun _ => ?_) (fun hb22 => by cases hb22)
           refine zo ?_
           refine zB [(2, .bool false)] [] ?_
           refine zr ?_
           refine ablock_r ?_
           refine athen_r ?_
           obtain rfl := Option.some.inj h
           rw [← hd8 _ rfl] at ho7
           have h := ho7
           try simp only at h
           refine athen_r ?_
           refine ablock_r ?_
           refine athen_r ?_
           obtain rfl := Option.some.inj h
           exact zR [] [] []
          ·refine zB [(1, .bp 1 0), (3, .int .i64 st1), (4, .bp 4 0), (22, .sl (.pair (.int .i64) (.pair (.int .i64) (.int .i64))) s.2), (23, .int .i64 (s.2.length : Int)), (24, .int .i64 st1), (50, .bool (decide (3 < (s.2.getD st1.toNat (0, 0, 0)).2.1)))] [(1, .box 24 [.int .i64 s.1, .sl (.pair (.int .i64) (.pair (.int .i64) (.int .i64))) s.2]), (4, .box 66 [.int .i64 (s.2.getD st1.toNat (0, 0, 0)).1, .int .i64 (s.2.getD st1.toNat (0, 0, 0)).2.1, .int .i64 (s.2.getD st1.toNat (0, 0, 0)).2.2])] ?_
           refine zQ h (fun hb23 h => ?_) (fun hb23 h => ?_)
           ·refine zo ?_
            refine zB [(2, .bool false)] [] ?_
            refine zr ?_
            refine ablock_r ?_
            refine athen_r ?_
            obtain rfl := Option.some.inj h
            rw [← hd8 _ rfl] at ho7
            have h := ho7
            try simp only at h
            refine athen_r ?_
            refine ablock_r ?_
            refine athen_r ?_
            obtain rfl := Option.some.inj h
            exact zR [] [] []
           ·refine zk ?_
            refine zo ?_
            obtain ⟨c24, h⟩ := ck_some.1 h
            obtain ⟨c25, h⟩ := ck_some.1 h
            refine zS 5 [(1, .bp 1 0), (4, .bp 4 0), (22, .sl (.pair (.int .i64) (.pair (.int .i64) (.int .i64))) s.2), (23, .int .i64 (s.2.length : Int)), (24, .int .i64 st1), (54, .sl (.pair (.int .i64) (.pair (.int .i64) (.int .i64))) (s.2.take st1.toNat)), (55, .int .i64 ((s.2.take st1.toNat).length : Int))] [(1, .box 24 [.int .i64 s.1, .sl (.pair (.int .i64) (.pair (.int .i64) (.int .i64))) s.2]), (4, .box 66 [.int .i64 (s.2.getD st1.toNat (0, 0, 0)).1, .int .i64 (s.2.getD st1.toNat (0, 0, 0)).2.1, .int .i64 (s.2.getD st1.toNat (0, 0, 0)).2.2])] ?_
            refine zB [(1, .bp 1 0), (4, .bp 4 0), (22, .sl (.pair (.int .i64) (.pair (.int .i64) (.int .i64))) s.2), (23, .int .i64 (s.2.length : Int)), (24, .int .i64 st1), (54, .sl (.pair (.int .i64) (.pair (.int .i64) (.int .i64))) (s.2.take st1.toNat)), (55, .int .i64 ((s.2.take st1.toNat).length : Int)), (56, .int .i64 0)] [(1, .box 24 [.int .i64 s.1, .sl (.pair (.int .i64) (.pair (.int .i64) (.int .i64))) s.2]), (4, .box 66 [.int .i64 (s.2.getD st1.toNat (0, 0, 0)).1, .int .i64 (s.2.getD st1.toNat (0, 0, 0)).2.1, .int .i64 (s.2.getD st1.toNat (0, 0, 0)).2.2])] ?_
            refine AW.block ?_
            obtain ⟨rv30, hw26, ho27⟩ := Option.bind_eq_some_iff.1 h
            refine AW.loopO (linealref05_Valid_b2 s st1) (fun st2 => ⟨fr [(1, .bp 1 0), (4, .bp 4 0), (22, .sl (.pair (.int .i64) (.pair (.int .i64) (.int .i64))) s.2), (23, .int .i64 (s.2.length : Int)), (24, .int .i64 st1), (54, .sl (.pair (.int .i64) (.pair (.int .i64) (.int .i64))) (s.2.take st1.toNat)), (55, .int .i64 ((s.2.take st1.toNat).length : Int)), (56, .int .i64 st2)], hpGet [(1, .box 24 [.int .i64 s.1, .sl (.pair (.int .i64) (.pair (.int .i64) (.int .i64))) s.2]), (4, .box 66 [.int .i64 (s.2.getD st1.toNat (0, 0, 0)).1, .int .i64 (s.2.getD st1.toNat (0, 0, 0)).2.1, .int .i64 (s.2.getD st1.toNat (0, 0, 0)).2.2])], gt⟩) 0 hw26 (zL [] [] []) ?_
            as_aux_lemma =>
             intro st2 x29 h hd28
             unfold linealref05_Valid_b2 at h
             refine zo ?_
             refine zB [(1, .bp 1 0), (4, .bp 4 0), (22, .sl (.pair (.int .i64) (.pair (.int .i64) (.int .i64))) s.2), (23, .int .i64 (s.2.length : Int)), (24, .int .i64 st1), (54, .sl (.pair (.int .i64) (.pair (.int .i64) (.int .i64))) (s.2.take st1.toNat)), (55, .int .i64 ((s.2.take st1.toNat).length : Int)), (56, .int .i64 st2), (57, .bool (decide (st2 < ((s.2.take st1.toNat).length : Int))))] [(1, .box 24 [.int .i64 s.1, .sl (.pair (.int .i64) (.pair (.int .i64) (.int .i64))) s.2]), (4, .box 66 [.int .i64 (s.2.getD st1.toNat (0, 0, 0)).1, .int .i64 (s.2.getD st1.toNat (0, 0, 0)).2.1, .int .i64 (s.2.getD st1.toNat (0, 0, 0)).2.2])] ?_
             refine AW.seq ?_
             refine zQ h (fun hb31 h => ?_) (fun hb31 h => ?_)
             ·refine zk ?_
              refine AW.seq ?_
              refine AW.block ?_
              refine zo ?_
              obtain ⟨c32, h⟩ := ck_some.1 h
              obtain ⟨c33, h⟩ := ck_some.1 h
              refine zB [(1, .bp 1 0), (4, .bp 4 0), (6, .bp 6 0), (22, .sl (.pair (.int .i64) (.pair (.int .i64) (.int .i64))) s.2), (23, .int .i64 (s.2.length : Int)), (24, .int .i64 st1), (54, .sl (.pair (.int .i64) (.pair (.int .i64) (.int .i64))) (s.2.take st1.toNat)), (55, .int .i64 ((s.2.take st1.toNat).length : Int)), (56, .int .i64 st2)] [(1, .box 24 [.int .i64 s.1, .sl (.pair (.int .i64) (.pair (.int .i64) (.int .i64))) s.2]), (4, .box 66 [.int .i64 (s.2.getD st1.toNat (0, 0, 0)).1, .int .i64 (s.2.getD st1.toNat (0, 0, 0)).2.1, .int .i64 (s.2.getD st1.toNat (0, 0, 0)).2.2]), (6, .box 66 [.int .i64 ((s.2.take st1.toNat).getD st2.toNat (0, 0, 0)).1, .int .i64 ((s.2.take st1.toNat).getD st2.toNat (0, 0, 0)).2.1, .int .i64 ((s.2.take st1.toNat).getD st2.toNat (0, 0, 0)).2.2])] ?_
              refine zo ?_
              refine zS 2 [(1, .bp 1 0), (4, .bp 4 0), (22, .sl (.pair (.int .i64) (.pair (.int .i64) (.int .i64))) s.2), (23, .int .i64 (s.2.length : Int)), (24, .int .i64 st1), (54, .sl (.pair (.int .i64) (.pair (.int .i64) (.int .i64))) (s.2.take st1.toNat)), (55, .int .i64 ((s.2.take st1.toNat).length : Int)), (56, .int .i64 st2), (60, .agg [.int .i64 (s.2.getD st1.toNat (0, 0, 0)).1, .int .i64 (s.2.getD st1.toNat (0, 0, 0)).2.1, .int .i64 (s.2.getD st1.toNat (0, 0, 0)).2.2]), (61, .agg [.int .i64 ((s.2.take st1.toNat).getD st2.toNat (0, 0, 0)).1, .int .i64 ((s.2.take st1.toNat).getD st2.toNat (0, 0, 0)).2.1, .int .i64 ((s.2.take st1.toNat).getD st2.toNat (0, 0, 0)).2.2])] [(1, .box 24 [.int .i64 s.1, .sl (.pair (.int .i64) (.pair (.int .i64) (.int .i64))) s.2]), (4, .box 66 [.int .i64 (s.2.getD st1.toNat (0, 0, 0)).1, .int .i64 (s.2.getD st1.toNat (0, 0, 0)).2.1, .int .i64 (s.2.getD st1.toNat (0, 0, 0)).2.2])] ?_
              obtain ⟨c34, h⟩ := ck_some.1 h
              obtain ⟨c35, h⟩ := ck_some.1 h
              obtain ⟨c36, h⟩ := ck_some.1 h
              obtain ⟨c37, h⟩ := ck_some.1 h
              obtain ⟨c38, h⟩ := ck_some.1 h
              obtain ⟨c39, h⟩ := ck_some.1 h
              refine AO.aggEq (neg := false) eqty_66 (by decide) rfl rfl (lx := [.int .i64 (s.2.getD st1.toNat (0, 0, 0)).1, .int .i64 (s.2.getD st1.toNat (0, 0, 0)).2.1, .int .i64 (s.2.getD st1.toNat (0, 0, 0)).2.2]) (ly := [.int .i64 ((s.2.take st1.toNat).getD st2.toNat (0, 0, 0)).1, .int .i64 ((s.2.take st1.toNat).getD st2.toNat (0, 0, 0)).2.1, .int .i64 ((s.2.take st1.toNat).getD st2.toNat (0, 0, 0)).2.2]) (by first | rfl | (simp only [go_sem, hb1, hb3, hb5, hb11, hb16, hb19, hb21, hb23, hb31]) <;> (with_reducible and_intros) <;> first | assumption | rfl | omega | (unfold maxLen; omega)) (by first | rfl | (simp only [go_sem, hb1, hb3, hb5, hb11, hb16, hb19, hb21, hb23, hb31]) <;> (with_reducible and_intros) <;> first | assumption | rfl | omega | (unfold maxLen; omega)) (by first | rfl | (simp only [go_sem, hb1, hb3, hb5, hb11, hb16, hb19, hb21, hb23, hb31]) <;> (with_reducible and_intros) <;> first | assumption | rfl | omega | (unfold maxLen; omega)) (by first | rfl | (simp only [go_sem, hb1, hb3, hb5, hb11, hb16, hb19, hb21, hb23, hb31]) <;> (with_reducible and_intros) <;> first | assumption | rfl | omega | (unfold maxLen; omega)) (by first | assumption | omega | (simp only [go_sem, hb1, hb3, hb5, hb11, hb16, hb19, hb21, hb23, hb31]) <;> (with_reducible and_intros) <;> first | assumption | rfl | omega | (unfold maxLen; omega)) (by first | assumption | omega | (simp only [go_sem, hb1, hb3, hb5, hb11, hb16, hb19, hb21, hb23, hb31]) <;> (with_reducible and_intros) <;> first | assumption | rfl | omega | (unfold maxLen; omega)) ?_
              refine zT [(1, .bp 1 0), (4, .bp 4 0), (22, .sl (.pair (.int .i64) (.pair (.int .i64) (.int .i64))) s.2), (23, .int .i64 (s.2.length : Int)), (24, .int .i64 st1), (54, .sl (.pair (.int .i64) (.pair (.int .i64) (.int .i64))) (s.2.take st1.toNat)), (55, .int .i64 ((s.2.take st1.toNat).length : Int)), (56, .int .i64 st2), (62, .bool (decide ((s.2.getD st1.toNat (0, 0, 0)) = ((s.2.take st1.toNat).getD st2.toNat (0, 0, 0)))))] [(1, .box 24 [.int .i64 s.1, .sl (.pair (.int .i64) (.pair (.int .i64) (.int .i64))) s.2]), (4, .box 66 [.int .i64 (s.2.getD st1.toNat (0, 0, 0)).1, .int .i64 (s.2.getD st1.toNat (0, 0, 0)).2.1, .int .i64 (s.2.getD st1.toNat (0, 0, 0)).2.2])] gt ?_
              refine zB [(1, .bp 1 0), (4, .bp 4 0), (22, .sl (.pair (.int .i64) (.pair (.int .i64) (.int .i64))) s.2), (23, .int .i64 (s.2.length : Int)), (24, .int .i64 st1), (54, .sl (.pair (.int .i64) (.pair (.int .i64) (.int .i64))) (s.2.take st1.toNat)), (55, .int .i64 ((s.2.take st1.toNat).length : Int)), (56, .int .i64 st2), (62, .bool (decide ((s.2.getD st1.toNat (0, 0, 0)) = ((s.2.take st1.toNat).getD st2.toNat (0, 0, 0)))))] [(1, .box 24 [.int .i64 s.1, .sl (.pair (.int .i64) (.pair (.int .i64) (.int .i64))) s.2]), (4, .box 66 [.int .i64 (s.2.getD st1.toNat (0, 0, 0)).1, .int .i64 (s.2.getD st1.toNat (0, 0, 0)).2.1, .int .i64 (s.2.getD st1.toNat (0, 0, 0)).2.2])] ?_
              refine zQ h (fun hb40 h => ?_) (fun hb40 h => ?_)
              ·refine zo ?_
               refine zB [(2, .bool false)] [] ?_
               refine AW.ret ?_
               refine ablock_r ?_
               refine athen_r ?_
               obtain rfl := Option.some.inj h
               rw [← hd28 _ rfl] at ho27
               have h := ho27
               try simp only at h
               refine athen_r ?_
               refine ablock_r ?_
               refine ablock_r ?_
               refine athen_r ?_
               obtain rfl := Option.some.inj h
               rw [← hd8 _ rfl] at ho7
               have h := ho7
               try simp only at h
               refine athen_r ?_
               refine ablock_r ?_
               refine athen_r ?_
               obtain rfl := Option.some.inj h
               exact zR [] [] []
              ·refine zm ?_
               refine athen_n ?_
               refine AW.ops ?_
               obtain ⟨c41, h⟩ := ck_some.1 h
               refine zA [(1, .bp 1 0), (4, .bp 4 0), (22, .sl (.pair (.int .i64) (.pair (.int .i64) (.int .i64))) s.2), (23, .int .i64 (s.2.length : Int)), (24, .int .i64 st1), (54, .sl (.pair (.int .i64) (.pair (.int .i64) (.int .i64))) (s.2.take st1.toNat)), (55, .int .i64 ((s.2.take st1.toNat).length : Int)), (56, .int .i64 (st2 + 1))] [(1, .box 24 [.int .i64 s.1, .sl (.pair (.int .i64) (.pair (.int .i64) (.int .i64))) s.2]), (4, .box 66 [.int .i64 (s.2.getD st1.toNat (0, 0, 0)).1, .int .i64 (s.2.getD st1.toNat (0, 0, 0)).2.1, .int .i64 (s.2.getD st1.toNat (0, 0, 0)).2.2])] ?_
               obtain rfl := Option.some.inj h
               exact ⟨_, rfl, zL [] [] []⟩
             ·refine AW.exit ?_
              refine athen_e ?_
              obtain rfl := Option.some.inj h
              rw [← hd28 _ rfl] at ho27
              have h := ho27
              try simp only at h
              refine athen_e ?_
              refine ablock_s ?_
              refine ablock_n ?_
              refine athen_n ?_
              exact AW.weaken (zL [] [] []) (hk_linealref05_Valid_k2 () h)
      ·refine AW.exit ?_
       refine athen_e ?_
       obtain rfl := Option.some.inj h
       rw [← hd8 _ rfl] at ho7
       have h := ho7
       try simp only at h
       refine athen_e ?_
       refine ablock_s ?_
       refine athen_n ?_
       exact AW.weaken (zL [] [] []) (hk_linealref05_Valid_k1 () h)

theorem hc_lineallaw05_valid (l : List (Int × (List (Int × Int × Int)))) {r : Bool} (h : lineallaw05_valid l = some r) : HC Try.prog 56 [] [.sl (.pair (.int .i64) (.sl (.pair (.int .i64) (.pair (.int .i64) (.int .i64))))) l] [] (.bool r) := by
 unfold lineallaw05_valid at h
 refine zH Try.func56 [.tmp 2] 19 ?_
 refine zo ?_
 refine zB [(0, .sl (.pair (.int .i64) (.sl (.pair (.int .i64) (.pair (.int .i64) (.int .i64))))) l)] [] ?_
 refine AW.have1 (fun _ : Unit => lineallaw05_valid_k1 = some r) (fun _ => ⟨fr [], hpGet [], gt⟩) (fun _ h => ?_) (fun hk_lineallaw05_valid_k1 => ?_)
 ·as_aux_lemma =>
   unfold lineallaw05_valid_k1 at h
   refine zo ?_
   refine zB [(2, .bool true)] [] ?_
   refine AW.ret ?_
   obtain rfl := Option.some.inj h
   exact zR [] [] []
 ·refine AW.seq ?_
  refine zo ?_
  refine zB [(5, .sl (.pair (.int .i64) (.sl (.pair (.int .i64) (.pair (.int .i64) (.int .i64))))) l), (6, .int .i64 (l.length : Int)), (7, .int .i64 0)] [] ?_
  refine AW.block ?_
  obtain ⟨rv5, hw1, ho2⟩ := Option.bind_eq_some_iff.1 h
  refine AW.loopO (lineallaw05_valid_b1 l) (fun st1 => ⟨fr [(5, .sl (.pair (.int .i64) (.sl (.pair (.int .i64) (.pair (.int .i64) (.int .i64))))) l), (6, .int .i64 (l.length : Int)), (7, .int .i64 st1)], hpGet [], gt⟩) 0 hw1 (zL [] [] []) ?_
  as_aux_lemma =>
   intro st1 x4 h hd3
   unfold lineallaw05_valid_b1 at h
   refine zo ?_
   refine zB [(5, .sl (.pair (.int .i64) (.sl (.pair (.int .i64) (.pair (.int .i64) (.int .i64))))) l), (6, .int .i64 (l.length : Int)), (7, .int .i64 st1), (8, .bool (decide (st1 < (l.length : Int))))] [] ?_
   refine AW.seq ?_
   refine zQ h (fun hb6 h => ?_) (fun hb6 h => ?_)
   ·refine zk ?_
    refine AW.seq ?_
    refine AW.block ?_
    refine zo ?_
    obtain ⟨c7, h⟩ := ck_some.1 h
    obtain ⟨c8, h⟩ := ck_some.1 h
    refine zB [(4, .bp 4 0), (5, .sl (.pair (.int .i64) (.sl (.pair (.int .i64) (.pair (.int .i64) (.int .i64))))) l), (6, .int .i64 (l.length : Int)), (7, .int .i64 st1)] [(4, .box 24 [.int .i64 (l.getD st1.toNat (0, [])).1, .sl (.pair (.int .i64) (.pair (.int .i64) (.int .i64))) (l.getD st1.toNat (0, [])).2])] ?_
    refine zo ?_
    refine zS 1 [(4, .bp 4 0), (5, .sl (.pair (.int .i64) (.sl (.pair (.int .i64) (.pair (.int .i64) (.int .i64))))) l), (6, .int .i64 (l.length : Int)), (7, .int .i64 st1), (11, .agg [.int .i64 (l.getD st1.toNat (0, [])).1, .sl (.pair (.int .i64) (.pair (.int .i64) (.int .i64))) (l.getD st1.toNat (0, [])).2])] [(4, .box 24 [.int .i64 (l.getD st1.toNat (0, [])).1, .sl (.pair (.int .i64) (.pair (.int .i64) (.int .i64))) (l.getD st1.toNat (0, [])).2])] ?_
    obtain ⟨v0, hv9, h⟩ := Option.bind_eq_some_iff.1 h
    refine zC [] [] (hc_lineallaw05_Long (l.getD st1.toNat (0, [])) hv9) [(4, .bp 4 0), (5, .sl (.pair (.int .i64) (.sl (.pair (.int .i64) (.pair (.int .i64) (.int .i64))))) l), (6, .int .i64 (l.length : Int)), (7, .int .i64 st1), (12, .bool (decide (100 < ((l.getD st1.toNat (0, [])).2.length : Int))))] [(4, .box 24 [.int .i64 (l.getD st1.toNat (0, [])).1, .sl (.pair (.int .i64) (.pair (.int .i64) (.int .i64))) (l.getD st1.toNat (0, [])).2])] ?_
    refine zS 1 [(4, .bp 4 0), (5, .sl (.pair (.int .i64) (.sl (.pair (.int .i64) (.pair (.int .i64) (.int .i64))))) l), (6, .int .i64 (l.length : Int)), (7, .int .i64 st1), (13, .bool (decide (100 < ((l.getD st1.toNat (0, [])).2.length : Int))))] [(4, .box 24 [.int .i64 (l.getD st1.toNat (0, [])).1, .sl (.pair (.int .i64) (.pair (.int .i64) (.int .i64))) (l.getD st1.toNat (0, [])).2])] ?_
    rcases zI h with ⟨hb10, h⟩ | ⟨hb10, h⟩
    ·refine zB [(5, .sl (.pair (.int .i64) (.sl (.pair (.int .i64) (.pair (.int .i64) (.int .i64))))) l), (6, .int .i64 (l.length : Int)), (7, .int .i64 st1), (17, .bool true)] [] ?_
     refine AW.cond (b := true) rfl (fun _ => ?_) (fun hb11 => by cases hb11)
     refine zo ?_
     refine zB [(2, .bool false)] [] ?_
     refine AW.ret ?_
     refine ablock_r ?_
     refine athen_r ?_
     obtain rfl := Option.some.inj h
     rw [← hd3 _ rfl] at ho2
     have h := ho2
     try simp only at h
     refine athen_r ?_
     refine ablock_r ?_
     refine athen_r ?_
     obtain rfl := Option.some.inj h
     exact zR [] [] []
    ·refine zS 1 [(5, .sl (.pair (.int .i64) (.sl (.pair (.int .i64) (.pair (.int .i64) (.int .i64))))) l), (6, .int .i64 (l.length : Int)), (7, .int .i64 st1), (13, .bool false), (14, .agg [.int .i64 (l.getD st1.toNat (0, [])).1, .sl (.pair (.int .i64) (.pair (.int .i64) (.int .i64))) (l.getD st1.toNat (0, [])).2])] [] ?_
     obtain ⟨v0_2, hv12, h⟩ := Option.bind_eq_some_iff.1 h
     refine zG [] [] (hc_linealref05_Valid (l.getD st1.toNat (0, [])) hv12) [(5, .sl (.pair (.int .i64) (.sl (.pair (.int .i64) (.pair (.int .i64) (.int .i64))))) l), (6, .int .i64 (l.length : Int)), (7, .int .i64 st1), (13, .bool false), (15, .bool v0_2)] [] ?_
     refine zB [(5, .sl (.pair (.int .i64) (.sl (.pair (.int .i64) (.pair (.int .i64) (.int .i64))))) l), (6, .int .i64 (l.length : Int)), (7, .int .i64 st1), (17, .bool (!v0_2))] [] ?_
     refine zQ h (fun hb13 h => ?_) (fun hb13 h => ?_)
     ·refine zo ?_
      refine zB [(2, .bool false)] [] ?_
      refine AW.ret ?_
      refine ablock_r ?_
      refine athen_r ?_
      obtain rfl := Option.some.inj h
      rw [← hd3 _ rfl] at ho2
      have h := ho2
      try simp only at h
      refine athen_r ?_
      refine ablock_r ?_
      refine athen_r ?_
      obtain rfl := Option.some.inj h
      exact zR [] [] []
     ·refine zm ?_
      refine athen_n ?_
      refine AW.ops ?_
      obtain ⟨c14, h⟩ := ck_some.1 h
      refine zA [(5, .sl (.pair (.int .i64) (.sl (.pair (.int .i64) (.pair (.int .i64) (.int .i64))))) l), (6, .int .i64 (l.length : Int)), (7, .int .i64 (st1 + 1))] [] ?_
      obtain rfl := Option.some.inj h
      exact ⟨_, rfl, zL [] [] []⟩
   ·refine AW.exit ?_
    refine athen_e ?_
    obtain rfl := Option.some.inj h
    rw [← hd3 _ rfl] at ho2
    have h := ho2
    try simp only at h
    refine athen_e ?_
    refine ablock_s ?_
    refine athen_n ?_
    exact AW.weaken (zL [] [] []) (hk_lineallaw05_valid_k1 () h)

theorem hc_refine_relation_list (r0 : (El T94)) {r : (List (Int × Int))} (h : refine_relation_list r0 = some r) : HC Try.prog 82 [] [.agg (cellsX T94 r0)] [(2000, .arr 58 (.pair (.int .i64) (.int .i64)) r)] (.own 2000) := by
 unfold refine_relation_list at h
 refine zH Try.func82 [.tmp 2] 29 ?_
 refine zo ?_
 refine zB [(1, .bp 1 0)] [(1, .box 94 (cellsX T94 r0))] ?_
 refine zo ?_
 refine zB [(1, .bp 1 0), (3, .cv (.slice none 0 0))] [(1, .box 94 (cellsX T94 r0))] ?_
 refine AW.have1 (fun b2_2 : (List (Int × Int)) => refine_relation_list_k1 b2_2 = some r) (fun b2_2 => ⟨fr [(3, .own 25)], hpGet [(25, .arr 58 (.pair (.int .i64) (.int .i64)) b2_2)], gt⟩) (fun b2_2 h => ?_) (fun hk_refine_relation_list_k1 => ?_)
 ·as_aux_lemma =>
   unfold refine_relation_list_k1 at h
   refine zo ?_
   refine zB [(2, .own 25)] [(25, .arr 58 (.pair (.int .i64) (.int .i64)) b2_2)] ?_
   refine AW.ret ?_
   obtain rfl := Option.some.inj h
   exact zR [] [] [(2000, 25)]
 ·refine AW.seq ?_
  refine zo ?_
  refine zB [(3, .cv (.slice none 0 0)), (8, .agg (cellsX T94 r0)), (9, .int .i64 0)] [] ?_
  refine AW.block ?_
  obtain ⟨rv5, hw1, ho2⟩ := Option.bind_eq_some_iff.1 h
  refine AW.loopO (refine_relation_list_b1 r0) (fun st1 => ⟨fr [(3, .own 25), (8, .agg (cellsX T94 r0)), (9, .int .i64 st1.2)], hpGet [(25, .arr 58 (.pair (.int .i64) (.int .i64)) st1.1)], gt⟩) ([], 0) hw1 (zL [] [25] []) ?_
  as_aux_lemma =>
   intro st1 x4 h hd3
   unfold refine_relation_list_b1 at h
   refine zo ?_
   refine zB [(3, .own 25), (8, .agg (cellsX T94 r0)), (9, .int .i64 st1.2), (10, .bool (decide (st1.2 < 6)))] [(25, .arr 58 (.pair (.int .i64) (.int .i64)) st1.1)] ?_
   refine AW.seq ?_
   refine zQ h (fun hb6 h => ?_) (fun hb6 h => ?_)
   ·refine zk ?_
    refine AW.have1 (fun b2 : (List (Int × Int)) => refine_relation_list_k2 st1 b2 = some x4) (fun b2 => ⟨fr [(3, .own 25), (8, .agg (cellsX T94 r0)), (9, .int .i64 st1.2)], hpGet [(25, .arr 58 (.pair (.int .i64) (.int .i64)) b2)], gt⟩) (fun b2 h => ?_) (fun hk_refine_relation_list_k2 => ?_)
    ·as_aux_lemma =>
      unfold refine_relation_list_k2 at h
      refine AW.ops ?_
      obtain ⟨c7, h⟩ := ck_some.1 h
      refine zA [(3, .own 25), (8, .agg (cellsX T94 r0)), (9, .int .i64 (st1.2 + 1))] [(25, .arr 58 (.pair (.int .i64) (.int .i64)) b2)] ?_
      obtain rfl := Option.some.inj h
      exact ⟨_, rfl, zL [] [] []⟩
    ·refine AW.seq ?_
     refine AW.block ?_
     refine zo ?_
     refine zS 1 [(3, .own 25), (8, .agg (cellsX T94 r0)), (9, .int .i64 st1.2), (11, .int .i64 st1.2)] [(25, .arr 58 (.pair (.int .i64) (.int .i64)) st1.1)] ?_
     obtain ⟨c8, h⟩ := ck_some.1 h
     obtain ⟨c9, h⟩ := ck_some.1 h
     have hx10 : (st1.2.toNat * 1) < 6 := by omega
     refine AO.idxA tab_ok (by decide) rfl rfl tab_94 rfl tab_67 rfl rfl (by first | assumption | omega | (simp only [go_sem, hb6, hx10]) <;> (with_reducible and_intros) <;> first | assumption | rfl | omega | (unfold maxLen; omega)) (by first | assumption | omega | (simp only [go_sem, hb6, hx10]) <;> (with_reducible and_intros) <;> first | assumption | rfl | omega | (unfold maxLen; omega)) (by first | assumption | omega | (simp only [go_sem, hb6, hx10]) <;> (with_reducible and_intros) <;> first | assumption | rfl | omega | (unfold maxLen; omega)) (.inr rfl) (v := .int .u8 (intAt T94 r0 (st1.2.toNat * 1))) (by first | assumption | omega | (simp only [go_sem, hb6, hx10]) <;> (with_reducible and_intros) <;> first | assumption | rfl | omega | (unfold maxLen; omega)) ?_
     refine zT [(3, .own 25), (8, .agg (cellsX T94 r0)), (9, .int .i64 st1.2), (11, .int .i64 st1.2), (12, .int .u8 (intAt T94 r0 (st1.2.toNat * 1)))] [(25, .arr 58 (.pair (.int .i64) (.int .i64)) st1.1)] gt ?_
     refine zB [(3, .own 25), (4, .int .i64 st1.2), (5, .int .u8 (intAt T94 r0 (st1.2.toNat * 1))), (8, .agg (cellsX T94 r0)), (9, .int .i64 st1.2)] [(25, .arr 58 (.pair (.int .i64) (.int .i64)) st1.1)] ?_
     refine zo ?_
     refine zS 1 [(3, .own 25), (4, .int .i64 st1.2), (8, .agg (cellsX T94 r0)), (9, .int .i64 st1.2), (13, .int .u8 (intAt T94 r0 (st1.2.toNat * 1)))] [(25, .arr 58 (.pair (.int .i64) (.int .i64)) st1.1)] ?_
     obtain ⟨v0, hv11, h⟩ := Option.bind_eq_some_iff.1 h
     refine zC [] [] (hc_refine_set_states (intAt T94 r0 (st1.2.toNat * 1)) hv11) [(3, .own 25), (4, .int .i64 st1.2), (8, .agg (cellsX T94 r0)), (9, .int .i64 st1.2), (14, .own 24000)] [(25, .arr 58 (.pair (.int .i64) (.int .i64)) st1.1), (24000, .arr 3 (.int .i64) v0)] ?_
     refine zB [(3, .own 25), (4, .int .i64 st1.2), (8, .agg (cellsX T94 r0)), (9, .int .i64 st1.2), (14, .own 24000), (15, .int .i64 (v0.length : Int)), (16, .int .i64 0)] [(25, .arr 58 (.pair (.int .i64) (.int .i64)) st1.1), (24000, .arr 3 (.int .i64) v0)] ?_
     refine AW.block ?_
     obtain ⟨rv16, hw12, ho13⟩ := Option.bind_eq_some_iff.1 h
     refine AW.loopO (refine_relation_list_b2 st1 v0) (fun st2 => ⟨fr [(3, .own 25), (4, .int .i64 st1.2), (8, .agg (cellsX T94 r0)), (9, .int .i64 st1.2), (14, .own 24000), (15, .int .i64 (v0.length : Int)), (16, .int .i64 st2.2)], hpGet [(25, .arr 58 (.pair (.int .i64) (.int .i64)) st2.1), (24000, .arr 3 (.int .i64) v0)], gt⟩) (st1.1, 0) hw12 (zL [] [] []) ?_
     as_aux_lemma =>
      intro st2 x15 h hd14
      unfold refine_relation_list_b2 at h
      refine zo ?_
      refine zB [(3, .own 25), (4, .int .i64 st1.2), (8, .agg (cellsX T94 r0)), (9, .int .i64 st1.2), (14, .own 24000), (15, .int .i64 (v0.length : Int)), (16, .int .i64 st2.2), (17, .bool (decide (st2.2 < (v0.length : Int))))] [(25, .arr 58 (.pair (.int .i64) (.int .i64)) st2.1), (24000, .arr 3 (.int .i64) v0)] ?_
      refine AW.seq ?_
      refine zQ h (fun hb17 h => ?_) (fun hb17 h => ?_)
      ·refine zk ?_
       refine AW.seq ?_
       refine AW.block ?_
       refine zo ?_
       obtain ⟨c18, h⟩ := ck_some.1 h
       obtain ⟨c19, h⟩ := ck_some.1 h
       refine zB [(3, .own 25), (4, .int .i64 st1.2), (7, .int .i64 (v0.getD st2.2.toNat 0)), (8, .agg (cellsX T94 r0)), (9, .int .i64 st1.2), (14, .own 24000), (15, .int .i64 (v0.length : Int)), (16, .int .i64 st2.2)] [(25, .arr 58 (.pair (.int .i64) (.int .i64)) st2.1), (24000, .arr 3 (.int .i64) v0)] ?_
       refine AW.ops ?_
       refine zS 5 [(4, .int .i64 st1.2), (8, .agg (cellsX T94 r0)), (9, .int .i64 st1.2), (14, .own 24000), (15, .int .i64 (v0.length : Int)), (16, .int .i64 st2.2), (20, .own 25), (24, .own 24)] [(24, .arr 58 (.pair (.int .i64) (.int .i64)) [(st1.2, (v0.getD st2.2.toNat 0))]), (25, .arr 58 (.pair (.int .i64) (.int .i64)) st2.1), (24000, .arr 3 (.int .i64) v0)] ?_
       obtain ⟨c20, h⟩ := ck_some.1 h
       refine zA [(3, .own 25), (4, .int .i64 st1.2), (8, .agg (cellsX T94 r0)), (9, .int .i64 st1.2), (14, .own 24000), (15, .int .i64 (v0.length : Int)), (16, .int .i64 st2.2)] [(25, .arr 58 (.pair (.int .i64) (.int .i64)) (st2.1 ++ [(st1.2, (v0.getD st2.2.toNat 0))])), (24000, .arr 3 (.int .i64) v0)] ?_
       refine ablock_n ?_
       refine athen_n ?_
       refine AW.ops ?_
       obtain ⟨c21, h⟩ := ck_some.1 h
       refine zA [(3, .own 25), (4, .int .i64 st1.2), (8, .agg (cellsX T94 r0)), (9, .int .i64 st1.2), (14, .own 24000), (15, .int .i64 (v0.length : Int)), (16, .int .i64 (st2.2 + 1))] [(25, .arr 58 (.pair (.int .i64) (.int .i64)) (st2.1 ++ [(st1.2, (v0.getD st2.2.toNat 0))])), (24000, .arr 3 (.int .i64) v0)] ?_
       obtain rfl := Option.some.inj h
       exact ⟨_, rfl, zL [] [] []⟩
      ·refine AW.exit ?_
       refine athen_e ?_
       obtain rfl := Option.some.inj h
       rw [← hd14 _ rfl] at ho13
       have h := ho13
       refine athen_e ?_
       refine ablock_s ?_
       refine ablock_n ?_
       refine athen_n ?_
       exact AW.weaken (zL [] [] []) (hk_refine_relation_list_k2 _ h)
   ·refine AW.exit ?_
    refine athen_e ?_
    obtain rfl := Option.some.inj h
    rw [← hd3 _ rfl] at ho2
    have h := ho2
    refine athen_e ?_
    refine ablock_s ?_
    refine athen_n ?_
    exact AW.weaken (zL [] [] []) (hk_refine_relation_list_k1 _ h)

end Go.Proofs.Ytifleoceebaooaa
