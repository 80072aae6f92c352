/-
  Made by wip/tool/dc.py out of the print of the program: contracts.
-/
import Derived.Test.YtljonmpcehlpaaaRfp
import Derived.Test.YtljonmpcehlpaaaShr
import Derived.Test.YtljonmpcehlpaaaNtc3
import Derived.Test.YtljonmpcehlpaaaNtc4
namespace Go.Proofs.Ytljonmpcehlpaaa
open Go.RowKit

set_option linter.unusedSimpArgs false
set_option linter.unusedVariables false
set_option linter.constructorNameAsVariable false

set_option maxRecDepth 100000
set_option maxHeartbeats 2000000

theorem hc_linealref05_Valid (s : Int × (List (Int × Int × Int))) {r : Bool} (h : linealref05_Valid s = some r) : HC Try.prog 21 [] [.agg [.int .i64 s.1, .sl (.pair (.int .i64) (.pair (.int .i64) (.int .i64))) s.2]] [] (.bool r) := by
 unfold linealref05_Valid at h
 refine zH Try.func21 [.tmp 2] 65 ?_
 refine zo ?_
 refine zB [(1, .bp 1 0)] [(1, .box 24 [.int .i64 s.1, .sl (.pair (.int .i64) (.pair (.int .i64) (.int .i64))) s.2])] ?_
 refine AW.seq ?_
 refine zo ?_
 refine zS 4 [(1, .bp 1 0), (10, .bool (decide (s.1 < 1)))] [(1, .box 24 [.int .i64 s.1, .sl (.pair (.int .i64) (.pair (.int .i64) (.int .i64))) s.2])] ?_
 rcases zI h with ⟨hb1, h⟩ | ⟨hb1, h⟩
 ·refine zS 5 [(1, .bp 1 0), (15, .bool true)] [(1, .box 24 [.int .i64 s.1, .sl (.pair (.int .i64) (.pair (.int .i64) (.int .i64))) s.2])] ?_
  refine zS 4 [(1, .bp 1 0), (15, .bool true), (19, .cv (undef))] [(1, .box 24 [.int .i64 s.1, .sl (.pair (.int .i64) (.pair (.int .i64) (.int .i64))) s.2])] ?_
  refine zB [(1, .bp 1 0), (20, .bool true)] [(1, .box 24 [.int .i64 s.1, .sl (.pair (.int .i64) (.pair (.int .i64) (.int .i64))) s.2])] ?_
  refine AW.cond (b := true) rfl (fun _ => ?_) (fun hb2 => by cases hb2)
  refine zo ?_
  refine zB [(2, .bool false)] [] ?_
  refine zr ?_
  obtain rfl := Option.some.inj h
  exact zR [] [] []
 ·refine zS 5 [(1, .bp 1 0), (15, .bool (decide (6 < s.1)))] [(1, .box 24 [.int .i64 s.1, .sl (.pair (.int .i64) (.pair (.int .i64) (.int .i64))) s.2])] ?_
  rcases zI h with ⟨hb3, h⟩ | ⟨hb3, h⟩
  ·refine zS 4 [(1, .bp 1 0), (15, .bool true), (19, .cv (undef))] [(1, .box 24 [.int .i64 s.1, .sl (.pair (.int .i64) (.pair (.int .i64) (.int .i64))) s.2])] ?_
   refine zB [(1, .bp 1 0), (20, .bool true)] [(1, .box 24 [.int .i64 s.1, .sl (.pair (.int .i64) (.pair (.int .i64) (.int .i64))) s.2])] ?_
   refine AW.cond (b := true) rfl (fun _ => ?_) (fun hb4 => by cases hb4)
   refine zo ?_
   refine zB [(2, .bool false)] [] ?_
   refine zr ?_
   obtain rfl := Option.some.inj h
   exact zR [] [] []
  ·refine zB [(1, .bp 1 0), (20, .bool (decide (24 < (s.2.length : Int))))] [(1, .box 24 [.int .i64 s.1, .sl (.pair (.int .i64) (.pair (.int .i64) (.int .i64))) s.2])] ?_
   refine zQ h (fun hb5 h => ?_) (fun hb5 h => ?_)
   ·refine zo ?_
    refine zB [(2, .bool false)] [] ?_
    refine zr ?_
    obtain rfl := Option.some.inj h
    exact zR [] [] []
   ·refine zk ?_
    refine AW.have1 (fun _ : Unit => linealref05_Valid_k1 = some r) (fun _ => ⟨fr [], hpGet [], gt⟩) (fun _ h => ?_) (fun hk_linealref05_Valid_k1 => ?_)
    ·as_aux_lemma =>
      unfold linealref05_Valid_k1 at h
      refine zo ?_
      refine zB [(2, .bool true)] [] ?_
      refine AW.ret ?_
      obtain rfl := Option.some.inj h
      exact zR [] [] []
    ·refine AW.seq ?_
     refine zo ?_
     refine zB [(1, .bp 1 0), (22, .sl (.pair (.int .i64) (.pair (.int .i64) (.int .i64))) s.2), (23, .int .i64 (s.2.length : Int)), (24, .int .i64 0)] [(1, .box 24 [.int .i64 s.1, .sl (.pair (.int .i64) (.pair (.int .i64) (.int .i64))) s.2])] ?_
     refine AW.block ?_
     obtain ⟨rv10, hw6, ho7⟩ := Option.bind_eq_some_iff.1 h
     refine AW.loopO (linealref05_Valid_b1 s) (fun st1 => ⟨fr [(1, .bp 1 0), (22, .sl (.pair (.int .i64) (.pair (.int .i64) (.int .i64))) s.2), (23, .int .i64 (s.2.length : Int)), (24, .int .i64 st1)], hpGet [(1, .box 24 [.int .i64 s.1, .sl (.pair (.int .i64) (.pair (.int .i64) (.int .i64))) s.2])], gt⟩) 0 hw6 (zL [] [] []) ?_
     as_aux_lemma =>
      intro st1 x9 h hd8
      unfold linealref05_Valid_b1 at h
      refine zo ?_
      refine zB [(1, .bp 1 0), (22, .sl (.pair (.int .i64) (.pair (.int .i64) (.int .i64))) s.2), (23, .int .i64 (s.2.length : Int)), (24, .int .i64 st1), (25, .bool (decide (st1 < (s.2.length : Int))))] [(1, .box 24 [.int .i64 s.1, .sl (.pair (.int .i64) (.pair (.int .i64) (.int .i64))) s.2])] ?_
      refine AW.seq ?_
      refine zQ h (fun hb11 h => ?_) (fun hb11 h => ?_)
      ·refine zk ?_
       refine AW.have1 (fun _ : Unit => linealref05_Valid_k2 st1 = some x9) (fun _ => ⟨fr [(1, .bp 1 0), (22, .sl (.pair (.int .i64) (.pair (.int .i64) (.int .i64))) s.2), (23, .int .i64 (s.2.length : Int)), (24, .int .i64 st1)], hpGet [(1, .box 24 [.int .i64 s.1, .sl (.pair (.int .i64) (.pair (.int .i64) (.int .i64))) s.2])], gt⟩) (fun _ h => ?_) (fun hk_linealref05_Valid_k2 => ?_)
       ·as_aux_lemma =>
         unfold linealref05_Valid_k2 at h
         refine AW.ops ?_
         obtain ⟨c12, h⟩ := ck_some.1 h
         refine zA [(1, .bp 1 0), (22, .sl (.pair (.int .i64) (.pair (.int .i64) (.int .i64))) s.2), (23, .int .i64 (s.2.length : Int)), (24, .int .i64 (st1 + 1))] [(1, .box 24 [.int .i64 s.1, .sl (.pair (.int .i64) (.pair (.int .i64) (.int .i64))) s.2])] ?_
         obtain rfl := Option.some.inj h
         exact ⟨_, rfl, zL [] [] []⟩
       ·refine AW.seq ?_
        refine AW.block ?_
        refine zo ?_
        obtain ⟨c13, h⟩ := ck_some.1 h
        obtain ⟨c14, h⟩ := ck_some.1 h
        refine zS 5 [(1, .bp 1 0), (3, .int .i64 st1), (4, .bp 4 0), (22, .sl (.pair (.int .i64) (.pair (.int .i64) (.int .i64))) s.2), (23, .int .i64 (s.2.length : Int)), (24, .int .i64 st1), (28, .agg [.int .i64 (s.2.getD st1.toNat (0, 0, 0)).1, .int .i64 (s.2.getD st1.toNat (0, 0, 0)).2.1, .int .i64 (s.2.getD st1.toNat (0, 0, 0)).2.2])] [(1, .box 24 [.int .i64 s.1, .sl (.pair (.int .i64) (.pair (.int .i64) (.int .i64))) s.2]), (4, .box 66 [.int .i64 0, .int .i64 0, .int .i64 0])] ?_
        refine zB [(1, .bp 1 0), (3, .int .i64 st1), (4, .bp 4 0), (22, .sl (.pair (.int .i64) (.pair (.int .i64) (.int .i64))) s.2), (23, .int .i64 (s.2.length : Int)), (24, .int .i64 st1)] [(1, .box 24 [.int .i64 s.1, .sl (.pair (.int .i64) (.pair (.int .i64) (.int .i64))) s.2]), (4, .box 66 [.int .i64 (s.2.getD st1.toNat (0, 0, 0)).1, .int .i64 (s.2.getD st1.toNat (0, 0, 0)).2.1, .int .i64 (s.2.getD st1.toNat (0, 0, 0)).2.2])] ?_
        refine AW.seq ?_
        refine zo ?_
        refine zS 3 [(1, .bp 1 0), (3, .int .i64 st1), (4, .bp 4 0), (22, .sl (.pair (.int .i64) (.pair (.int .i64) (.int .i64))) s.2), (23, .int .i64 (s.2.length : Int)), (24, .int .i64 st1), (29, .agg [.int .i64 s.1, .sl (.pair (.int .i64) (.pair (.int .i64) (.int .i64))) s.2]), (31, .int .i64 (s.2.getD st1.toNat (0, 0, 0)).1)] [(1, .box 24 [.int .i64 s.1, .sl (.pair (.int .i64) (.pair (.int .i64) (.int .i64))) s.2]), (4, .box 66 [.int .i64 (s.2.getD st1.toNat (0, 0, 0)).1, .int .i64 (s.2.getD st1.toNat (0, 0, 0)).2.1, .int .i64 (s.2.getD st1.toNat (0, 0, 0)).2.2])] ?_
        obtain ⟨v0, hv15, h⟩ := Option.bind_eq_some_iff.1 h
        refine zC [] [] (hc_linealref05_IsState s (s.2.getD st1.toNat (0, 0, 0)).1 hv15) [(1, .bp 1 0), (3, .int .i64 st1), (4, .bp 4 0), (22, .sl (.pair (.int .i64) (.pair (.int .i64) (.int .i64))) s.2), (23, .int .i64 (s.2.length : Int)), (24, .int .i64 st1), (32, .bool v0)] [(1, .box 24 [.int .i64 s.1, .sl (.pair (.int .i64) (.pair (.int .i64) (.int .i64))) s.2]), (4, .box 66 [.int .i64 (s.2.getD st1.toNat (0, 0, 0)).1, .int .i64 (s.2.getD st1.toNat (0, 0, 0)).2.1, .int .i64 (s.2.getD st1.toNat (0, 0, 0)).2.2])] ?_
        refine zS 2 [(1, .bp 1 0), (3, .int .i64 st1), (4, .bp 4 0), (22, .sl (.pair (.int .i64) (.pair (.int .i64) (.int .i64))) s.2), (23, .int .i64 (s.2.length : Int)), (24, .int .i64 st1), (34, .bool (!v0))] [(1, .box 24 [.int .i64 s.1, .sl (.pair (.int .i64) (.pair (.int .i64) (.int .i64))) s.2]), (4, .box 66 [.int .i64 (s.2.getD st1.toNat (0, 0, 0)).1, .int .i64 (s.2.getD st1.toNat (0, 0, 0)).2.1, .int .i64 (s.2.getD st1.toNat (0, 0, 0)).2.2])] ?_
        rcases zI h with ⟨hb16, h⟩ | ⟨hb16, h⟩
        ·refine zS 4 [(1, .bp 1 0), (3, .int .i64 st1), (4, .bp 4 0), (22, .sl (.pair (.int .i64) (.pair (.int .i64) (.int .i64))) s.2), (23, .int .i64 (s.2.length : Int)), (24, .int .i64 st1), (34, .bool true), (38, .cv (undef))] [(1, .box 24 [.int .i64 s.1, .sl (.pair (.int .i64) (.pair (.int .i64) (.int .i64))) s.2]), (4, .box 66 [.int .i64 (s.2.getD st1.toNat (0, 0, 0)).1, .int .i64 (s.2.getD st1.toNat (0, 0, 0)).2.1, .int .i64 (s.2.getD st1.toNat (0, 0, 0)).2.2])] ?_
         refine zS 5 [(1, .bp 1 0), (3, .int .i64 st1), (4, .bp 4 0), (22, .sl (.pair (.int .i64) (.pair (.int .i64) (.int .i64))) s.2), (23, .int .i64 (s.2.length : Int)), (24, .int .i64 st1), (41, .bool true), (43, .cv (undef))] [(1, .box 24 [.int .i64 s.1, .sl (.pair (.int .i64) (.pair (.int .i64) (.int .i64))) s.2]), (4, .box 66 [.int .i64 (s.2.getD st1.toNat (0, 0, 0)).1, .int .i64 (s.2.getD st1.toNat (0, 0, 0)).2.1, .int .i64 (s.2.getD st1.toNat (0, 0, 0)).2.2])] ?_
         refine zS 5 [(1, .bp 1 0), (3, .int .i64 st1), (4, .bp 4 0), (22, .sl (.pair (.int .i64) (.pair (.int .i64) (.int .i64))) s.2), (23, .int .i64 (s.2.length : Int)), (24, .int .i64 st1), (46, .bool true), (48, .cv (undef))] [(1, .box 24 [.int .i64 s.1, .sl (.pair (.int .i64) (.pair (.int .i64) (.int .i64))) s.2]), (4, .box 66 [.int .i64 (s.2.getD st1.toNat (0, 0, 0)).1, .int .i64 (s.2.getD st1.toNat (0, 0, 0)).2.1, .int .i64 (s.2.getD st1.toNat (0, 0, 0)).2.2])] ?_
         refine zB [(1, .bp 1 0), (3, .int .i64 st1), (4, .bp 4 0), (22, .sl (.pair (.int .i64) (.pair (.int .i64) (.int .i64))) s.2), (23, .int .i64 (s.2.length : Int)), (24, .int .i64 st1), (50, .bool true)] [(1, .box 24 [.int .i64 s.1, .sl (.pair (.int .i64) (.pair (.int .i64) (.int .i64))) s.2]), (4, .box 66 [.int .i64 (s.2.getD st1.toNat (0, 0, 0)).1, .int .i64 (s.2.getD st1.toNat (0, 0, 0)).2.1, .int .i64 (s.2.getD st1.toNat (0, 0, 0)).2.2])] ?_
         refine AW.cond (b := true) rfl (fun _ => ?_) (fun hb17 => by cases hb17)
         refine zo ?_
         refine zB [(2, .bool false)] [] ?_
         refine zr ?_
         refine ablock_r ?_
         refine athen_r ?_
         obtain rfl := Option.some.inj h
         rw [← hd8 _ rfl] at ho7
         have h := ho7
         try simp only at h
         refine athen_r ?_
         refine ablock_r ?_
         refine athen_r ?_
         obtain rfl := Option.some.inj h
         exact zR [] [] []
        ·refine zS 3 [(1, .bp 1 0), (3, .int .i64 st1), (4, .bp 4 0), (22, .sl (.pair (.int .i64) (.pair (.int .i64) (.int .i64))) s.2), (23, .int .i64 (s.2.length : Int)), (24, .int .i64 st1), (34, .bool false), (35, .agg [.int .i64 s.1, .sl (.pair (.int .i64) (.pair (.int .i64) (.int .i64))) s.2]), (37, .int .i64 (s.2.getD st1.toNat (0, 0, 0)).2.2)] [(1, .box 24 [.int .i64 s.1, .sl (.pair (.int .i64) (.pair (.int .i64) (.int .i64))) s.2]), (4, .box 66 [.int .i64 (s.2.getD st1.toNat (0, 0, 0)).1, .int .i64 (s.2.getD st1.toNat (0, 0, 0)).2.1, .int .i64 (s.2.getD st1.toNat (0, 0, 0)).2.2])] ?_
         obtain ⟨v0_2, hv18, h⟩ := Option.bind_eq_some_iff.1 h
         refine zG [] [] (hc_linealref05_IsState s (s.2.getD st1.toNat (0, 0, 0)).2.2 hv18) [(1, .bp 1 0), (3, .int .i64 st1), (4, .bp 4 0), (22, .sl (.pair (.int .i64) (.pair (.int .i64) (.int .i64))) s.2), (23, .int .i64 (s.2.length : Int)), (24, .int .i64 st1), (34, .bool false), (38, .bool v0_2)] [(1, .box 24 [.int .i64 s.1, .sl (.pair (.int .i64) (.pair (.int .i64) (.int .i64))) s.2]), (4, .box 66 [.int .i64 (s.2.getD st1.toNat (0, 0, 0)).1, .int .i64 (s.2.getD st1.toNat (0, 0, 0)).2.1, .int .i64 (s.2.getD st1.toNat (0, 0, 0)).2.2])] ?_
         refine zS 3 [(1, .bp 1 0), (3, .int .i64 st1), (4, .bp 4 0), (22, .sl (.pair (.int .i64) (.pair (.int .i64) (.int .i64))) s.2), (23, .int .i64 (s.2.length : Int)), (24, .int .i64 st1), (41, .bool (!v0_2))] [(1, .box 24 [.int .i64 s.1, .sl (.pair (.int .i64) (.pair (.int .i64) (.int .i64))) s.2]), (4, .box 66 [.int .i64 (s.2.getD st1.toNat (0, 0, 0)).1, .int .i64 (s.2.getD st1.toNat (0, 0, 0)).2.1, .int .i64 (s.2.getD st1.toNat (0, 0, 0)).2.2])] ?_
         rcases zI h with ⟨hb19, h⟩ | ⟨hb19, h⟩
         ·refine zS 5 [(1, .bp 1 0), (3, .int .i64 st1), (4, .bp 4 0), (22, .sl (.pair (.int .i64) (.pair (.int .i64) (.int .i64))) s.2), (23, .int .i64 (s.2.length : Int)), (24, .int .i64 st1), (46, .bool true)] [(1, .box 24 [.int .i64 s.1, .sl (.pair (.int .i64) (.pair (.int .i64) (.int .i64))) s.2]), (4, .box 66 [.int .i64 (s.2.getD st1.toNat (0, 0, 0)).1, .int .i64 (s.2.getD st1.toNat (0, 0, 0)).2.1, .int .i64 (s.2.getD st1.toNat (0, 0, 0)).2.2])] ?_
          refine zB [(1, .bp 1 0), (3, .int .i64 st1), (4, .bp 4 0), (22, .sl (.pair (.int .i64) (.pair (.int .i64) (.int .i64))) s.2), (23, .int .i64 (s.2.length : Int)), (24, .int .i64 st1), (50, .bool true)] [(1, .box 24 [.int .i64 s.1, .sl (.pair (.int .i64) (.pair (.int .i64) (.int .i64))) s.2]), (4, .box 66 [.int .i64 (s.2.getD st1.toNat (0, 0, 0)).1, .int .i64 (s.2.getD st1.toNat (0, 0, 0)).2.1, .int .i64 (s.2.getD st1.toNat (0, 0, 0)).2.2])] ?_
          refine AW.cond (b := true) rfl (fun _ => ?_) (fun hb20 => by cases hb20)
          refine zo ?_
          refine zB [(2, .bool false)] [] ?_
          refine zr ?_
          refine ablock_r ?_
          refine athen_r ?_
          obtain rfl := Option.some.inj h
          rw [← hd8 _ rfl] at ho7
          have h := ho7
          try simp only at h
          refine athen_r ?_
          refine ablock_r ?_
          refine athen_r ?_
          obtain rfl := Option.some.inj h
          exact zR [] [] []
         ·refine zS 5 [(1, .bp 1 0), (3, .int .i64 st1), (4, .bp 4 0), (22, .sl (.pair (.int .i64) (.pair (.int .i64) (.int .i64))) s.2), (23, .int .i64 (s.2.length : Int)), (24, .int .i64 st1), (46, .bool (decide ((s.2.getD st1.toNat (0, 0, 0)).2.1 < 0)))] [(1, .box 24 [.int .i64 s.1, .sl (.pair (.int .i64) (.pair (.int .i64) (.int .i64))) s.2]), (4, .box 66 [.int .i64 (s.2.getD st1.toNat (0, 0, 0)).1, .int .i64 (s.2.getD st1.toNat (0, 0, 0)).2.1, .int .i64 (s.2.getD st1.toNat (0, 0, 0)).2.2])] ?_
          rcases zI h with ⟨hb21, h⟩ | ⟨hb21, h⟩
          ·refine zB [(1, .bp 1 0), (3, .int .i64 st1), (4, .bp 4 0), (22, .sl (.pair (.int .i64) (.pair (.int .i64) (.int .i64))) s.2), (23, .int .i64 (s.2.length : Int)), (24, .int .i64 st1), (50, .bool true)] [(1, .box 24 [.int .i64 s.1, .sl (.pair (.int .i64) (.pair (.int .i64) (.int .i64))) s.2]), (4, .box 66 [.int .i64 (s.2.getD st1.toNat (0, 0, 0)).1, .int .i64 (s.2.getD st1.toNat (0, 0, 0)).2.1, .int .i64 (s.2.getD st1.toNat (0, 0, 0)).2.2])] ?_
           refine AW.cond (b := true) rfl (fun _ => ?_) (fun hb22 => by cases hb22)
           refine zo ?_
           refine zB [(2, .bool false)] [] ?_
           refine zr ?_
           refine ablock_r ?_
           refine athen_r ?_
           obtain rfl := Option.some.inj h
           rw [← hd8 _ rfl] at ho7
           have h := ho7
           try simp only at h
           refine athen_r ?_
           refine ablock_r ?_
           refine athen_r ?_
           obtain rfl := Option.some.inj h
           exact zR [] [] []
          ·refine zB [(1, .bp 1 0), (3, .int .i64 st1), (4, .bp 4 0), (22, .sl (.pair (.int .i64) (.pair (.int .i64) (.int .i64))) s.2), (23, .int .i64 (s.2.length : Int)), (24, .int .i64 st1), (50, .bool (decide (3 < (s.2.getD st1.toNat (0, 0, 0)).2.1)))] [(1, .box 24 [.int .i64 s.1, .sl (.pair (.int .i64) (.pair (.int .i64) (.int .i64))) s.2]), (4, .box 66 [.int .i64 (s.2.getD st1.toNat (0, 0, 0)).1, .int .i64 (s.2.getD st1.toNat (0, 0, 0)).2.1, .int .i64 (s.2.getD st1.toNat (0, 0, 0)).2.2])] ?_
           refine zQ h (fun hb23 h => ?_) (fun hb23 h => ?_)
           ·refine zo ?_
            refine zB [(2, .bool false)] [] ?_
            refine zr ?_
            refine ablock_r ?_
            refine athen_r ?_
            obtain rfl := Option.some.inj h
            rw [← hd8 _ rfl] at ho7
            have h := ho7
            try simp only at h
            refine athen_r ?_
            refine ablock_r ?_
            refine athen_r ?_
            obtain rfl := Option.some.inj h
            exact zR [] [] []
           ·refine zk ?_
            refine zo ?_
            obtain ⟨c24, h⟩ := ck_some.1 h
            obtain ⟨c25, h⟩ := ck_some.1 h
            refine zS 5 [(1, .bp 1 0), (4, .bp 4 0), (22, .sl (.pair (.int .i64) (.pair (.int .i64) (.int .i64))) s.2), (23, .int .i64 (s.2.length : Int)), (24, .int .i64 st1), (54, .sl (.pair (.int .i64) (.pair (.int .i64) (.int .i64))) (s.2.take st1.toNat)), (55, .int .i64 ((s.2.take st1.toNat).length : Int))] [(1, .box 24 [.int .i64 s.1, .sl (.pair (.int .i64) (.pair (.int .i64) (.int .i64))) s.2]), (4, .box 66 [.int .i64 (s.2.getD st1.toNat (0, 0, 0)).1, .int .i64 (s.2.getD st1.toNat (0, 0, 0)).2.1, .int .i64 (s.2.getD st1.toNat (0, 0, 0)).2.2])] ?_
            refine zB [(1, .bp 1 0), (4, .bp 4 0), (22, .sl (.pair (.int .i64) (.pair (.int .i64) (.int .i64))) s.2), (23, .int .i64 (s.2.length : Int)), (24, .int .i64 st1), (54, .sl (.pair (.int .i64) (.pair (.int .i64) (.int .i64))) (s.2.take st1.toNat)), (55, .int .i64 ((s.2.take st1.toNat).length : Int)), (56, .int .i64 0)] [(1, .box 24 [.int .i64 s.1, .sl (.pair (.int .i64) (.pair (.int .i64) (.int .i64))) s.2]), (4, .box 66 [.int .i64 (s.2.getD st1.toNat (0, 0, 0)).1, .int .i64 (s.2.getD st1.toNat (0, 0, 0)).2.1, .int .i64 (s.2.getD st1.toNat (0, 0, 0)).2.2])] ?_
            refine AW.block ?_
            obtain ⟨rv30, hw26, ho27⟩ := Option.bind_eq_some_iff.1 h
            refine AW.loopO (linealref05_Valid_b2 s st1) (fun st2 => ⟨fr [(1, .bp 1 0), (4, .bp 4 0), (22, .sl (.pair (.int .i64) (.pair (.int .i64) (.int .i64))) s.2), (23, .int .i64 (s.2.length : Int)), (24, .int .i64 st1), (54, .sl (.pair (.int .i64) (.pair (.int .i64) (.int .i64))) (s.2.take st1.toNat)), (55, .int .i64 ((s.2.take st1.toNat).length : Int)), (56, .int .i64 st2)], hpGet [(1, .box 24 [.int .i64 s.1, .sl (.pair (.int .i64) (.pair (.int .i64) (.int .i64))) s.2]), (4, .box 66 [.int .i64 (s.2.getD st1.toNat (0, 0, 0)).1, .int .i64 (s.2.getD st1.toNat (0, 0, 0)).2.1, .int .i64 (s.2.getD st1.toNat (0, 0, 0)).2.2])], gt⟩) 0 hw26 (zL [] [] []) ?_
            as_aux_lemma =>
             intro st2 x29 h hd28
             unfold linealref05_Valid_b2 at h
             refine zo ?_
             refine zB [(1, .bp 1 0), (4, .bp 4 0), (22, .sl (.pair (.int .i64) (.pair (.int .i64) (.int .i64))) s.2), (23, .int .i64 (s.2.length : Int)), (24, .int .i64 st1), (54, .sl (.pair (.int .i64) (.pair (.int .i64) (.int .i64))) (s.2.take st1.toNat)), (55, .int .i64 ((s.2.take st1.toNat).length : Int)), (56, .int .i64 st2), (57, .bool (decide (st2 < ((s.2.take st1.toNat).length : Int))))] [(1, .box 24 [.int .i64 s.1, .sl (.pair (.int .i64) (.pair (.int .i64) (.int .i64))) s.2]), (4, .box 66 [.int .i64 (s.2.getD st1.toNat (0, 0, 0)).1, .int .i64 (s.2.getD st1.toNat (0, 0, 0)).2.1, .int .i64 (s.2.getD st1.toNat (0, 0, 0)).2.2])] ?_
             refine AW.seq ?_
             refine zQ h (fun hb31 h => ?_) (fun hb31 h => ?_)
             ·refine zk ?_
              refine AW.seq ?_
              refine AW.block ?_
              refine zo ?_
              obtain ⟨c32, h⟩ := ck_some.1 h
              obtain ⟨c33, h⟩ := ck_some.1 h
              refine zB [(1, .bp 1 0), (4, .bp 4 0), (6, .bp 6 0), (22, .sl (.pair (.int .i64) (.pair (.int .i64) (.int .i64))) s.2), (23, .int .i64 (s.2.length : Int)), (24, .int .i64 st1), (54, .sl (.pair (.int .i64) (.pair (.int .i64) (.int .i64))) (s.2.take st1.toNat)), (55, .int .i64 ((s.2.take st1.toNat).length : Int)), (56, .int .i64 st2)] [(1, .box 24 [.int .i64 s.1, .sl (.pair (.int .i64) (.pair (.int .i64) (.int .i64))) s.2]), (4, .box 66 [.int .i64 (s.2.getD st1.toNat (0, 0, 0)).1, .int .i64 (s.2.getD st1.toNat (0, 0, 0)).2.1, .int .i64 (s.2.getD st1.toNat (0, 0, 0)).2.2]), (6, .box 66 [.int .i64 ((s.2.take st1.toNat).getD st2.toNat (0, 0, 0)).1, .int .i64 ((s.2.take st1.toNat).getD st2.toNat (0, 0, 0)).2.1, .int .i64 ((s.2.take st1.toNat).getD st2.toNat (0, 0, 0)).2.2])] ?_
              refine zo ?_
              refine zS 2 [(1, .bp 1 0), (4, .bp 4 0), (22, .sl (.pair (.int .i64) (.pair (.int .i64) (.int .i64))) s.2), (23, .int .i64 (s.2.length : Int)), (24, .int .i64 st1), (54, .sl (.pair (.int .i64) (.pair (.int .i64) (.int .i64))) (s.2.take st1.toNat)), (55, .int .i64 ((s.2.take st1.toNat).length : Int)), (56, .int .i64 st2), (60, .agg [.int .i64 (s.2.getD st1.toNat (0, 0, 0)).1, .int .i64 (s.2.getD st1.toNat (0, 0, 0)).2.1, .int .i64 (s.2.getD st1.toNat (0, 0, 0)).2.2]), (61, .agg [.int .i64 ((s.2.take st1.toNat).getD st2.toNat (0, 0, 0)).1, .int .i64 ((s.2.take st1.toNat).getD st2.toNat (0, 0, 0)).2.1, .int .i64 ((s.2.take st1.toNat).getD st2.toNat (0, 0, 0)).2.2])] [(1, .box 24 [.int .i64 s.1, .sl (.pair (.int .i64) (.pair (.int .i64) (.int .i64))) s.2]), (4, .box 66 [.int .i64 (s.2.getD st1.toNat (0, 0, 0)).1, .int .i64 (s.2.getD st1.toNat (0, 0, 0)).2.1, .int .i64 (s.2.getD st1.toNat (0, 0, 0)).2.2])] ?_
              obtain ⟨c34, h⟩ := ck_some.1 h
              obtain ⟨c35, h⟩ := ck_some.1 h
              obtain ⟨c36, h⟩ := ck_some.1 h
              obtain ⟨c37, h⟩ := ck_some.1 h
              obtain ⟨c38, h⟩ := ck_some.1 h
              obtain ⟨c39, h⟩ := ck_some.1 h
              refine AO.aggEq (neg := false) eqty_66 (by decide) rfl rfl (lx := [.int .i64 (s.2.getD st1.toNat (0, 0, 0)).1, .int .i64 (s.2.getD st1.toNat (0, 0, 0)).2.1, .int .i64 (s.2.getD st1.toNat (0, 0, 0)).2.2]) (ly := [.int .i64 ((s.2.take st1.toNat).getD st2.toNat (0, 0, 0)).1, .int .i64 ((s.2.take st1.toNat).getD st2.toNat (0, 0, 0)).2.1, .int .i64 ((s.2.take st1.toNat).getD st2.toNat (0, 0, 0)).2.2]) (by first | rfl | (simp only [go_sem, hb1, hb3, hb5, hb11, hb16, hb19, hb21, hb23, hb31]) <;> (with_reducible and_intros) <;> first | assumption | rfl | omega | (unfold maxLen; omega)) (by first | rfl | (simp only [go_sem, hb1, hb3, hb5, hb11, hb16, hb19, hb21, hb23, hb31]) <;> (with_reducible and_intros) <;> first | assumption | rfl | omega | (unfold maxLen; omega)) (by first | rfl | (simp only [go_sem, hb1, hb3, hb5, hb11, hb16, hb19, hb21, hb23, hb31]) <;> (with_reducible and_intros) <;> first | assumption | rfl | omega | (unfold maxLen; omega)) (by first | rfl | (simp only [go_sem, hb1, hb3, hb5, hb11, hb16, hb19, hb21, hb23, hb31]) <;> (with_reducible and_intros) <;> first | assumption | rfl | omega | (unfold maxLen; omega)) (by first | assumption | omega | (simp only [go_sem, hb1, hb3, hb5, hb11, hb16, hb19, hb21, hb23, hb31]) <;> (with_reducible and_intros) <;> first | assumption | rfl | omega | (unfold maxLen; omega)) (by first | assumption | omega | (simp only [go_sem, hb1, hb3, hb5, hb11, hb16, hb19, hb21, hb23, hb31]) <;> (with_reducible and_intros) <;> first | assumption | rfl | omega | (unfold maxLen; omega)) ?_
              refine zT [(1, .bp 1 0), (4, .bp 4 0), (22, .sl (.pair (.int .i64) (.pair (.int .i64) (.int .i64))) s.2), (23, .int .i64 (s.2.length : Int)), (24, .int .i64 st1), (54, .sl (.pair (.int .i64) (.pair (.int .i64) (.int .i64))) (s.2.take st1.toNat)), (55, .int .i64 ((s.2.take st1.toNat).length : Int)), (56, .int .i64 st2), (62, .bool (decide ((s.2.getD st1.toNat (0, 0, 0)) = ((s.2.take st1.toNat).getD st2.toNat (0, 0, 0)))))] [(1, .box 24 [.int .i64 s.1, .sl (.pair (.int .i64) (.pair (.int .i64) (.int .i64))) s.2]), (4, .box 66 [.int .i64 (s.2.getD st1.toNat (0, 0, 0)).1, .int .i64 (s.2.getD st1.toNat (0, 0, 0)).2.1, .int .i64 (s.2.getD st1.toNat (0, 0, 0)).2.2])] gt ?_
              refine zB [(1, .bp 1 0), (4, .bp 4 0), (22, .sl (.pair (.int .i64) (.pair (.int .i64) (.int .i64))) s.2), (23, .int .i64 (s.2.length : Int)), (24, .int .i64 st1), (54, .sl (.pair (.int .i64) (.pair (.int .i64) (.int .i64))) (s.2.take st1.toNat)), (55, .int .i64 ((s.2.take st1.toNat).length : Int)), (56, .int .i64 st2), (62, .bool (decide ((s.2.getD st1.toNat (0, 0, 0)) = ((s.2.take st1.toNat).getD st2.toNat (0, 0, 0)))))] [(1, .box 24 [.int .i64 s.1, .sl (.pair (.int .i64) (.pair (.int .i64) (.int .i64))) s.2]), (4, .box 66 [.int .i64 (s.2.getD st1.toNat (0, 0, 0)).1, .int .i64 (s.2.getD st1.toNat (0, 0, 0)).2.1, .int .i64 (s.2.getD st1.toNat (0, 0, 0)).2.2])] ?_
              refine zQ h (fun hb40 h => ?_) (fun hb40 h => ?_)
              ·refine zo ?_
               refine zB [(2, .bool false)] [] ?_
               refine AW.ret ?_
               refine ablock_r ?_
               refine athen_r ?_
               obtain rfl := Option.some.inj h
               rw [← hd28 _ rfl] at ho27
               have h := ho27
               try simp only at h
               refine athen_r ?_
               refine ablock_r ?_
               refine ablock_r ?_
               refine athen_r ?_
               obtain rfl := Option.some.inj h
               rw [← hd8 _ rfl] at ho7
               have h := ho7
               try simp only at h
               refine athen_r ?_
               refine ablock_r ?_
               refine athen_r ?_
               obtain rfl := Option.some.inj h
               exact zR [] [] []
              ·refine zm ?_
               refine athen_n ?_
               refine AW.ops ?_
               obtain ⟨c41, h⟩ := ck_some.1 h
               refine zA [(1, .bp 1 0), (4, .bp 4 0), (22, .sl (.pair (.int .i64) (.pair (.int .i64) (.int .i64))) s.2), (23, .int .i64 (s.2.length : Int)), (24, .int .i64 st1), (54, .sl (.pair (.int .i64) (.pair (.int .i64) (.int .i64))) (s.2.take st1.toNat)), (55, .int .i64 ((s.2.take st1.toNat).length : Int)), (56, .int .i64 (st2 + 1))] [(1, .box 24 [.int .i64 s.1, .sl (.pair (.int .i64) (.pair (.int .i64) (.int .i64))) s.2]), (4, .box 66 [.int .i64 (s.2.getD st1.toNat (0, 0, 0)).1, .int .i64 (s.2.getD st1.toNat (0, 0, 0)).2.1, .int .i64 (s.2.getD st1.toNat (0, 0, 0)).2.2])] ?_
               obtain rfl := Option.some.inj h
               exact ⟨_, rfl, zL [] [] []⟩
             ·refine AW.exit ?_
              refine athen_e ?_
              obtain rfl := Option.some.inj h
              rw [← hd28 _ rfl] at ho27
              have h := ho27
              try simp only at h
              refine athen_e ?_
              refine ablock_s ?_
              refine ablock_n ?_
              refine athen_n ?_
              exact AW.weaken (zL [] [] []) (hk_linealref05_Valid_k2 () h)
      ·refine AW.exit ?_
       refine athen_e ?_
       obtain rfl := Option.some.inj h
       rw [← hd8 _ rfl] at ho7
       have h := ho7
       try simp only at h
       refine athen_e ?_
       refine ablock_s ?_
       refine athen_n ?_
       exact AW.weaken (zL [] [] []) (hk_linealref05_Valid_k1 () h)

theorem hc_refine_frame_traces_1_2F (slf : (List Int) → Int → Int → ((Int × (List (Int × Int × Int))) × (El T69)) → (List (List Int)) → Option ((List (List Int)))) (hc_slf : ∀ (trace : List Int) (at0 : Int) (a3 : Int) (a4 : (Int × (List (Int × Int × Int))) × (El T69)) (a2 : List (List Int)) {r : (List (List Int))}, slf trace at0 a3 a4 a2 = some r → HC Try.prog 111 [(1000, .box 36 [.own 1004]), (1001, .box 3 [.int .i64 a3]), (1002, .box 71 (.int .i64 a4.1.1 :: (.sl (.pair (.int .i64) (.pair (.int .i64) (.int .i64))) a4.1.2 :: (cellsX T69 a4.2)))), (1003, .box 125 [.fn (.func 111) [] [.bp 1000 0, .bp 1001 0, .bp 1002 0, .bp 1003 0]]), (1004, .arr 27 (.sl (.int .i64)) a2)] [.sl (.int .i64) trace, .int .u8 at0, .bp 1000 0, .bp 1001 0, .bp 1002 0, .bp 1003 0] [(1000, .box 36 [.own 2000]), (1001, .box 3 [.int .i64 a3]), (1002, .box 71 (.int .i64 a4.1.1 :: (.sl (.pair (.int .i64) (.pair (.int .i64) (.int .i64))) a4.1.2 :: (cellsX T69 a4.2)))), (1003, .box 125 [.fn (.func 111) [] [.bp 1000 0, .bp 1001 0, .bp 1002 0, .bp 1003 0]]), (2000, .arr 27 (.sl (.int .i64)) r)] (.tup [])) (trace : List Int) (at0 : Int) (a3 : Int) (a4 : (Int × (List (Int × Int × Int))) × (El T69)) (a2 : List (List Int)) {r : (List (List Int))} (h : refine_frame_traces_1_2F slf trace at0 a3 a4 a2 = some r) : HC Try.prog 111 [(1000, .box 36 [.own 1004]), (1001, .box 3 [.int .i64 a3]), (1002, .box 71 (.int .i64 a4.1.1 :: (.sl (.pair (.int .i64) (.pair (.int .i64) (.int .i64))) a4.1.2 :: (cellsX T69 a4.2)))), (1003, .box 125 [.fn (.func 111) [] [.bp 1000 0, .bp 1001 0, .bp 1002 0, .bp 1003 0]]), (1004, .arr 27 (.sl (.int .i64)) a2)] [.sl (.int .i64) trace, .int .u8 at0, .bp 1000 0, .bp 1001 0, .bp 1002 0, .bp 1003 0] [(1000, .box 36 [.own 2000]), (1001, .box 3 [.int .i64 a3]), (1002, .box 71 (.int .i64 a4.1.1 :: (.sl (.pair (.int .i64) (.pair (.int .i64) (.int .i64))) a4.1.2 :: (cellsX T69 a4.2)))), (1003, .box 125 [.fn (.func 111) [] [.bp 1000 0, .bp 1001 0, .bp 1002 0, .bp 1003 0]]), (2000, .arr 27 (.sl (.int .i64)) r)] (.tup []) := by
 unfold refine_frame_traces_1_2F at h
 refine zH Try.func111 [] 34 ?_
 refine zo ?_
 obtain ⟨c1, h⟩ := ck_some.1 h
 refine zB [(0, .sl (.int .i64) trace), (1, .int .u8 at0), (3, .bp 1001 0), (4, .bp 1002 0), (5, .bp 1003 0)] [(13, .arr 27 (.sl (.int .i64)) (a2 ++ [trace])), (1000, .box 36 [.own 13]), (1001, .box 3 [.int .i64 a3]), (1002, .box 71 (.int .i64 a4.1.1 :: (.sl (.pair (.int .i64) (.pair (.int .i64) (.int .i64))) a4.1.2 :: (cellsX T69 a4.2)))), (1003, .box 125 [.fn (.func 111) [] [.bp 1000 0, .bp 1001 0, .bp 1002 0, .bp 1003 0]])] ?_
 refine AW.seq ?_
 refine zo ?_
 refine zB [(0, .sl (.int .i64) trace), (1, .int .u8 at0), (4, .bp 1002 0), (5, .bp 1003 0), (17, .bool (decide ((trace.length : Int) = a3)))] [(13, .arr 27 (.sl (.int .i64)) (a2 ++ [trace])), (1000, .box 36 [.own 13]), (1001, .box 3 [.int .i64 a3]), (1002, .box 71 (.int .i64 a4.1.1 :: (.sl (.pair (.int .i64) (.pair (.int .i64) (.int .i64))) a4.1.2 :: (cellsX T69 a4.2)))), (1003, .box 125 [.fn (.func 111) [] [.bp 1000 0, .bp 1001 0, .bp 1002 0, .bp 1003 0]])] ?_
 refine zQ h (fun hb2 h => ?_) (fun hb2 h => ?_)
 ·refine zr ?_
  obtain rfl := Option.some.inj h
  exact zR [] [] [(2000, 13)]
 ·refine zk ?_
  refine zo ?_
  refine zB [(0, .sl (.int .i64) trace), (1, .int .u8 at0), (4, .bp 1002 0), (5, .bp 1003 0), (8, .int .i64 1)] [(13, .arr 27 (.sl (.int .i64)) (a2 ++ [trace])), (1000, .box 36 [.own 13]), (1001, .box 3 [.int .i64 a3]), (1002, .box 71 (.int .i64 a4.1.1 :: (.sl (.pair (.int .i64) (.pair (.int .i64) (.int .i64))) a4.1.2 :: (cellsX T69 a4.2)))), (1003, .box 125 [.fn (.func 111) [] [.bp 1000 0, .bp 1001 0, .bp 1002 0, .bp 1003 0]])] ?_
  refine AW.block ?_
  obtain ⟨rv7, hw3, ho4⟩ := Option.bind_eq_some_iff.1 h
  refine AW.loopO (refine_frame_traces_1_2_b1 slf trace at0 a3 a4) (fun st1 => ⟨fr [(0, .sl (.int .i64) trace), (1, .int .u8 at0), (4, .bp 1002 0), (5, .bp 1003 0), (8, .int .i64 st1.2)], hpGet [(13, .arr 27 (.sl (.int .i64)) st1.1), (1000, .box 36 [.own 13]), (1001, .box 3 [.int .i64 a3]), (1002, .box 71 (.int .i64 a4.1.1 :: (.sl (.pair (.int .i64) (.pair (.int .i64) (.int .i64))) a4.1.2 :: (cellsX T69 a4.2)))), (1003, .box 125 [.fn (.func 111) [] [.bp 1000 0, .bp 1001 0, .bp 1002 0, .bp 1003 0]])], gt⟩) ((a2 ++ [trace]), 1) hw3 (zL [] [] []) ?_
  as_aux_lemma =>
   intro st1 x6 h hd5
   unfold refine_frame_traces_1_2_b1 at h
   refine AW.seq ?_
   refine zo ?_
   refine zB [(0, .sl (.int .i64) trace), (1, .int .u8 at0), (4, .bp 1002 0), (5, .bp 1003 0), (8, .int .i64 st1.2), (19, .bool (decide (st1.2 ≤ 3)))] [(13, .arr 27 (.sl (.int .i64)) st1.1), (1000, .box 36 [.own 13]), (1001, .box 3 [.int .i64 a3]), (1002, .box 71 (.int .i64 a4.1.1 :: (.sl (.pair (.int .i64) (.pair (.int .i64) (.int .i64))) a4.1.2 :: (cellsX T69 a4.2)))), (1003, .box 125 [.fn (.func 111) [] [.bp 1000 0, .bp 1001 0, .bp 1002 0, .bp 1003 0]])] ?_
   refine zQ h (fun hb8 h => ?_) (fun hb8 h => ?_)
   ·refine zk ?_
    refine AW.seq ?_
    refine AW.block ?_
    refine zo ?_
    refine zS 3 [(0, .sl (.int .i64) trace), (1, .int .u8 at0), (4, .bp 1002 0), (5, .bp 1003 0), (8, .int .i64 st1.2), (22, .agg (.int .i64 a4.1.1 :: (.sl (.pair (.int .i64) (.pair (.int .i64) (.int .i64))) a4.1.2 :: (cellsX T69 a4.2)))), (23, .int .u8 at0), (24, .int .i64 st1.2)] [(13, .arr 27 (.sl (.int .i64)) st1.1), (1000, .box 36 [.own 13]), (1001, .box 3 [.int .i64 a3]), (1002, .box 71 (.int .i64 a4.1.1 :: (.sl (.pair (.int .i64) (.pair (.int .i64) (.int .i64))) a4.1.2 :: (cellsX T69 a4.2)))), (1003, .box 125 [.fn (.func 111) [] [.bp 1000 0, .bp 1001 0, .bp 1002 0, .bp 1003 0]])] ?_
    obtain ⟨v0, hv9, h⟩ := Option.bind_eq_some_iff.1 h
    refine zC [] [] (hc_refine_frame_after a4 at0 st1.2 hv9) [(0, .sl (.int .i64) trace), (1, .int .u8 at0), (4, .bp 1002 0), (5, .bp 1003 0), (8, .int .i64 st1.2), (25, .int .u8 v0)] [(13, .arr 27 (.sl (.int .i64)) st1.1), (1000, .box 36 [.own 13]), (1001, .box 3 [.int .i64 a3]), (1002, .box 71 (.int .i64 a4.1.1 :: (.sl (.pair (.int .i64) (.pair (.int .i64) (.int .i64))) a4.1.2 :: (cellsX T69 a4.2)))), (1003, .box 125 [.fn (.func 111) [] [.bp 1000 0, .bp 1001 0, .bp 1002 0, .bp 1003 0]])] ?_
    refine zB [(0, .sl (.int .i64) trace), (1, .int .u8 at0), (4, .bp 1002 0), (5, .bp 1003 0), (8, .int .i64 st1.2), (9, .int .u8 v0)] [(13, .arr 27 (.sl (.int .i64)) st1.1), (1000, .box 36 [.own 13]), (1001, .box 3 [.int .i64 a3]), (1002, .box 71 (.int .i64 a4.1.1 :: (.sl (.pair (.int .i64) (.pair (.int .i64) (.int .i64))) a4.1.2 :: (cellsX T69 a4.2)))), (1003, .box 125 [.fn (.func 111) [] [.bp 1000 0, .bp 1001 0, .bp 1002 0, .bp 1003 0]])] ?_
    refine zo ?_
    refine zB [(0, .sl (.int .i64) trace), (1, .int .u8 at0), (4, .bp 1002 0), (5, .bp 1003 0), (8, .int .i64 st1.2), (9, .int .u8 v0), (27, .bool (!(decide (v0 = 0))))] [(13, .arr 27 (.sl (.int .i64)) st1.1), (1000, .box 36 [.own 13]), (1001, .box 3 [.int .i64 a3]), (1002, .box 71 (.int .i64 a4.1.1 :: (.sl (.pair (.int .i64) (.pair (.int .i64) (.int .i64))) a4.1.2 :: (cellsX T69 a4.2)))), (1003, .box 125 [.fn (.func 111) [] [.bp 1000 0, .bp 1001 0, .bp 1002 0, .bp 1003 0]])] ?_
    refine zQ h (fun hb10 h => ?_) (fun hb10 h => ?_)
    ·refine AW.draw tab_ok mixed_ok [(3, [41000]), (5, [13, 1000, 1001, 1002, 1003, 41000, 43000])] [(0, [1000, 1001, 1002, 1003, 1000001000, 1000001001, 1000001002]), (4, [])] (by decide) (by kernel_rfl) ?_
     as_aux_lemma =>
      refine adops_cut 3 (fun K' hK11 => ?_)
      try dsimp only [List.drop_succ_cons, List.drop_zero, List.take_succ_cons, List.take_zero]
      simp only [go_sem, hb2, hb8, hb10]
      repeat with_reducible refine zN ?_
      refine hK11 _ ?_
      as_aux_lemma =>
       obtain ⟨v0_2, hv12, h⟩ := Option.bind_eq_some_iff.1 h
       refine adops.call (by first | trivial | rfl) rfl rfl rfl (fun _ h => h) [] [] (hc_refine_longer trace st1.2 hv12) rfl (by (simp only [go_sem, hb2, hb8, hb10]) <;> (with_reducible and_intros) <;> first | assumption | rfl | omega | (unfold maxLen; omega)) (by (simp only [go_sem, hb2, hb8, hb10]) <;> (with_reducible and_intros) <;> first | assumption | rfl | omega | (unfold maxLen; omega)) rfl ?_
       refine adops_cut 1 (fun K' hK13 => ?_)
       try dsimp only [List.drop_succ_cons, List.drop_zero, List.take_succ_cons, List.take_zero]
       simp only [go_sem, hb2, hb8, hb10]
       repeat with_reducible refine zN ?_
       refine hK13 _ ?_
       as_aux_lemma =>
        obtain ⟨v0_3, hv14, h⟩ := Option.bind_eq_some_iff.1 h
        refine adops.call (by first | trivial | rfl) rfl rfl rfl (fun _ h => h) [41000] [(1000, 1000), (1001, 1001), (1002, 1002), (1003, 1003), (1004, 13)] (hc_slf v0_2 v0 a3 a4 st1.1 hv14) rfl (by (simp only [go_sem, hb2, hb8, hb10]) <;> (with_reducible and_intros) <;> first | assumption | rfl | omega | (unfold maxLen; omega)) (by (simp only [go_sem, hb2, hb8, hb10]) <;> (with_reducible and_intros) <;> first | assumption | rfl | omega | (unfold maxLen; omega)) rfl ?_
        refine adops_cut 0 (fun K' hK15 => ?_)
        try dsimp only [List.drop_succ_cons, List.drop_zero, List.take_succ_cons, List.take_zero]
        simp only [go_sem, hb2, hb8, hb10]
        repeat with_reducible refine zN ?_
        refine hK15 _ ?_
        refine adops_nil ?_
        refine ablock_n ?_
        refine athen_n ?_
        refine zV [(0, .sl (.int .i64) trace), (1, .int .u8 at0), (4, .bp 1002 0), (5, .bp 1003 0), (8, .int .i64 st1.2)] [(1000, .box 36 [.own 43000]), (1001, .box 3 [.int .i64 a3]), (1002, .box 71 (.int .i64 a4.1.1 :: (.sl (.pair (.int .i64) (.pair (.int .i64) (.int .i64))) a4.1.2 :: (cellsX T69 a4.2)))), (1003, .box 125 [.fn (.func 111) [] [.bp 1000 0, .bp 1001 0, .bp 1002 0, .bp 1003 0]]), (43000, .arr 27 (.sl (.int .i64)) v0_3)] gt ?_
        as_aux_lemma =>
         refine AW.ops ?_
         obtain ⟨c16, h⟩ := ck_some.1 h
         refine zA [(0, .sl (.int .i64) trace), (1, .int .u8 at0), (4, .bp 1002 0), (5, .bp 1003 0), (8, .int .i64 (st1.2 + 1))] [(1000, .box 36 [.own 43000]), (1001, .box 3 [.int .i64 a3]), (1002, .box 71 (.int .i64 a4.1.1 :: (.sl (.pair (.int .i64) (.pair (.int .i64) (.int .i64))) a4.1.2 :: (cellsX T69 a4.2)))), (1003, .box 125 [.fn (.func 111) [] [.bp 1000 0, .bp 1001 0, .bp 1002 0, .bp 1003 0]]), (43000, .arr 27 (.sl (.int .i64)) v0_3)] ?_
         obtain rfl := Option.some.inj h
         exact ⟨_, rfl, zL [] [] [(13, 43000)]⟩
    ·refine zm ?_
     refine athen_n ?_
     refine AW.ops ?_
     obtain ⟨c17, h⟩ := ck_some.1 h
     refine zA [(0, .sl (.int .i64) trace), (1, .int .u8 at0), (4, .bp 1002 0), (5, .bp 1003 0), (8, .int .i64 (st1.2 + 1))] [(13, .arr 27 (.sl (.int .i64)) st1.1), (1000, .box 36 [.own 13]), (1001, .box 3 [.int .i64 a3]), (1002, .box 71 (.int .i64 a4.1.1 :: (.sl (.pair (.int .i64) (.pair (.int .i64) (.int .i64))) a4.1.2 :: (cellsX T69 a4.2)))), (1003, .box 125 [.fn (.func 111) [] [.bp 1000 0, .bp 1001 0, .bp 1002 0, .bp 1003 0]])] ?_
     obtain rfl := Option.some.inj h
     exact ⟨_, rfl, zL [] [] []⟩
   ·refine AW.exit ?_
    refine athen_e ?_
    obtain rfl := Option.some.inj h
    rw [← hd5 _ rfl] at ho4
    have h := ho4
    refine athen_e ?_
    refine ablock_s ?_
    obtain rfl := Option.some.inj h
    exact zR [] [] [(2000, 13)]

theorem hc_refine_frame_traces_1_2 : ∀ (n : Nat) (trace : List Int) (at0 : Int) (a3 : Int) (a4 : (Int × (List (Int × Int × Int))) × (El T69)) (a2 : List (List Int)) {r : (List (List Int))}, refine_frame_traces_1_2 n trace at0 a3 a4 a2 = some r → HC Try.prog 111 [(1000, .box 36 [.own 1004]), (1001, .box 3 [.int .i64 a3]), (1002, .box 71 (.int .i64 a4.1.1 :: (.sl (.pair (.int .i64) (.pair (.int .i64) (.int .i64))) a4.1.2 :: (cellsX T69 a4.2)))), (1003, .box 125 [.fn (.func 111) [] [.bp 1000 0, .bp 1001 0, .bp 1002 0, .bp 1003 0]]), (1004, .arr 27 (.sl (.int .i64)) a2)] [.sl (.int .i64) trace, .int .u8 at0, .bp 1000 0, .bp 1001 0, .bp 1002 0, .bp 1003 0] [(1000, .box 36 [.own 2000]), (1001, .box 3 [.int .i64 a3]), (1002, .box 71 (.int .i64 a4.1.1 :: (.sl (.pair (.int .i64) (.pair (.int .i64) (.int .i64))) a4.1.2 :: (cellsX T69 a4.2)))), (1003, .box 125 [.fn (.func 111) [] [.bp 1000 0, .bp 1001 0, .bp 1002 0, .bp 1003 0]]), (2000, .arr 27 (.sl (.int .i64)) r)] (.tup []) := by
 intro n
 induction n with
 | zero => intro trace at0 a3 a4 a2 r h; cases h
 | succ n ih => intro trace at0 a3 a4 a2 r h; exact hc_refine_frame_traces_1_2F (refine_frame_traces_1_2 n) ih trace at0 a3 a4 a2 h

end Go.Proofs.Ytljonmpcehlpaaa
