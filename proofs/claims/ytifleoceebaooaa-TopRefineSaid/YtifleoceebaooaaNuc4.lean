/-
  Made by wip/tool/dc.py out of the print of the program: contracts.
-/
import Derived.Test.YtifleoceebaooaaRfp
import Derived.Test.YtifleoceebaooaaShr
import Derived.Test.YtifleoceebaooaaAvd
import Derived.Test.YtifleoceebaooaaNuc1
import Derived.Test.YtifleoceebaooaaNuc3
namespace Go.Proofs.Ytifleoceebaooaa
open Go.RowKit

set_option linter.unusedSimpArgs false
set_option linter.unusedVariables false
set_option linter.constructorNameAsVariable false

set_option maxRecDepth 100000
set_option maxHeartbeats 2000000

theorem hc_linealref05_Valid (s : Int × (List (Int × Int × Int))) {r : Bool} (h : linealref05_Valid s = some r) : HC Try.prog 21 [] [.agg [.int .i64 s.1, .sl Y0 s.2]] [] (.bool r) := by
 unfold linealref05_Valid at h
 refine zH Try.func21 [.tmp 2] 65 ?_
 refine zo ?_
 refine zB [(1, .bp 1 0)] [(1, .box 24 [.int .i64 s.1, .sl Y0 s.2])] ?_
 refine AW.seq ?_
 refine zo ?_
 refine zS 4 [(1, .bp 1 0), (10, .bool (decide (s.1 < 1)))] [(1, .box 24 [.int .i64 s.1, .sl Y0 s.2])] ?_
 rcases zI h with ⟨hb1, h⟩ | ⟨hb1, h⟩
 ·refine zS 5 [(1, .bp 1 0), (15, .bool true)] [(1, .box 24 [.int .i64 s.1, .sl Y0 s.2])] ?_
  refine zS 4 [(1, .bp 1 0), (15, .bool true), (19, .cv (undef))] [(1, .box 24 [.int .i64 s.1, .sl Y0 s.2])] ?_
  refine zB [(1, .bp 1 0), (20, .bool true)] [(1, .box 24 [.int .i64 s.1, .sl Y0 s.2])] ?_
  refine AW.cond (b := true) rfl (fun _ => ?_) (fun hb2 => by cases hb2)
  refine zo ?_
  refine zB [(2, .bool false)] [] ?_
  refine zr ?_
  obtain rfl := Option.some.inj h
  exact zR [] [] []
 ·refine zS 5 [(1, .bp 1 0), (15, .bool (decide (6 < s.1)))] [(1, .box 24 [.int .i64 s.1, .sl Y0 s.2])] ?_
  rcases zI h with ⟨hb3, h⟩ | ⟨hb3, h⟩
  ·refine zS 4 [(1, .bp 1 0), (15, .bool true), (19, .cv (undef))] [(1, .box 24 [.int .i64 s.1, .sl Y0 s.2])] ?_
   refine zB [(1, .bp 1 0), (20, .bool true)] [(1, .box 24 [.int .i64 s.1, .sl Y0 s.2])] ?_
   refine AW.cond (b := true) rfl (fun _ => ?_) (fun hb4 => by cases hb4)
   refine zo ?_
   refine zB [(2, .bool false)] [] ?_
   refine zr ?_
   obtain rfl := Option.some.inj h
   exact zR [] [] []
  ·refine zB [(1, .bp 1 0), (20, .bool (decide (24 < (s.2.length : Int))))] [(1, .box 24 [.int .i64 s.1, .sl Y0 s.2])] ?_
   refine zQ h (fun hb5 h => ?_) (fun hb5 h => ?_)
   ·refine zo ?_
    refine zB [(2, .bool false)] [] ?_
    refine zr ?_
    obtain rfl := Option.some.inj h
    exact zR [] [] []
   ·refine zk ?_
    refine AW.have1 (fun _ : Unit => linealref05_Valid_k1 = some r) (fun _ => ⟨fr [], hpGet [], gt⟩) (fun _ h => ?_) (fun hk_linealref05_Valid_k1 => ?_)
    ·as_aux_lemma =>
      unfold linealref05_Valid_k1 at h
      refine zo ?_
      refine zB [(2, .bool true)] [] ?_
      refine AW.ret ?_
      obtain rfl := Option.some.inj h
      exact zR [] [] []
    ·refine AW.seq ?_
     refine zo ?_
     refine zB [(1, .bp 1 0), (22, .sl Y0 s.2), (23, .int .i64 (s.2.length : Int)), (24, .int .i64 0)] [(1, .box 24 [.int .i64 s.1, .sl Y0 s.2])] ?_
     refine AW.block ?_
     obtain ⟨rv10, hw6, ho7⟩ := Option.bind_eq_some_iff.1 h
     refine AW.loopO (linealref05_Valid_b1 s) (fun st1 => ⟨fr [(1, .bp 1 0), (22, .sl Y0 s.2), (23, .int .i64 (s.2.length : Int)), (24, .int .i64 st1)], hpGet [(1, .box 24 [.int .i64 s.1, .sl Y0 s.2])], gt⟩) 0 hw6 (zL [] [] []) ?_
     as_aux_lemma =>
      intro st1 x9 h hd8
      unfold linealref05_Valid_b1 at h
      refine zo ?_
      refine zB [(1, .bp 1 0), (22, .sl Y0 s.2), (23, .int .i64 (s.2.length : Int)), (24, .int .i64 st1), (25, .bool (decide (st1 < (s.2.length : Int))))] [(1, .box 24 [.int .i64 s.1, .sl Y0 s.2])] ?_
      refine AW.seq ?_
      refine zQ h (fun hb11 h => ?_) (fun hb11 h => ?_)
      ·refine zk ?_
       refine AW.have1 (fun _ : Unit => linealref05_Valid_k2 st1 = some x9) (fun _ => ⟨fr [(1, .bp 1 0), (22, .sl Y0 s.2), (23, .int .i64 (s.2.length : Int)), (24, .int .i64 st1)], hpGet [(1, .box 24 [.int .i64 s.1, .sl Y0 s.2])], gt⟩) (fun _ h => ?_) (fun hk_linealref05_Valid_k2 => ?_)
       ·as_aux_lemma =>
         unfold linealref05_Valid_k2 at h
         refine AW.ops ?_
         obtain ⟨c12, h⟩ := ck_some.1 h
         refine zA [(1, .bp 1 0), (22, .sl Y0 s.2), (23, .int .i64 (s.2.length : Int)), (24, .int .i64 (st1 + 1))] [(1, .box 24 [.int .i64 s.1, .sl Y0 s.2])] ?_
         obtain rfl := Option.some.inj h
         exact ⟨_, rfl, zL [] [] []⟩
       ·refine AW.seq ?_
        refine AW.block ?_
        refine zo ?_
        obtain ⟨c13, h⟩ := ck_some.1 h
        obtain ⟨c14, h⟩ := ck_some.1 h
        refine zS 5 [(1, .bp 1 0), (3, .int .i64 st1), (4, .bp 4 0), (22, .sl Y0 s.2), (23, .int .i64 (s.2.length : Int)), (24, .int .i64 st1), (28, .agg [.int .i64 (s.2.getD st1.toNat (0, 0, 0)).1, .int .i64 (s.2.getD st1.toNat (0, 0, 0)).2.1, .int .i64 (s.2.getD st1.toNat (0, 0, 0)).2.2])] [(1, .box 24 [.int .i64 s.1, .sl Y0 s.2]), (4, .box 66 [.int .i64 0, .int .i64 0, .int .i64 0])] ?_
        refine zB [(1, .bp 1 0), (3, .int .i64 st1), (4, .bp 4 0), (22, .sl Y0 s.2), (23, .int .i64 (s.2.length : Int)), (24, .int .i64 st1)] [(1, .box 24 [.int .i64 s.1, .sl Y0 s.2]), (4, .box 66 [.int .i64 (s.2.getD st1.toNat (0, 0, 0)).1, .int .i64 (s.2.getD st1.toNat (0, 0, 0)).2.1, .int .i64 (s.2.getD st1.toNat (0, 0, 0)).2.2])] ?_
        refine AW.seq ?_
        refine zo ?_
        refine zS 3 [(1, .bp 1 0), (3, .int .i64 st1), (4, .bp 4 0), (22, .sl Y0 s.2), (23, .int .i64 (s.2.length : Int)), (24, .int .i64 st1), (29, .agg [.int .i64 s.1, .sl Y0 s.2]), (31, .int .i64 (s.2.getD st1.toNat (0, 0, 0)).1)] [(1, .box 24 [.int .i64 s.1, .sl Y0 s.2]), (4, .box 66 [.int .i64 (s.2.getD st1.toNat (0, 0, 0)).1, .int .i64 (s.2.getD st1.toNat (0, 0, 0)).2.1, .int .i64 (s.2.getD st1.toNat (0, 0, 0)).2.2])] ?_
        obtain ⟨v0, hv15, h⟩ := Option.bind_eq_some_iff.1 h
        refine zC [] [] (hc_linealref05_IsState s (s.2.getD st1.toNat (0, 0, 0)).1 hv15) [(1, .bp 1 0), (3, .int .i64 st1), (4, .bp 4 0), (22, .sl Y0 s.2), (23, .int .i64 (s.2.length : Int)), (24, .int .i64 st1), (32, .bool v0)] [(1, .box 24 [.int .i64 s.1, .sl Y0 s.2]), (4, .box 66 [.int .i64 (s.2.getD st1.toNat (0, 0, 0)).1, .int .i64 (s.2.getD st1.toNat (0, 0, 0)).2.1, .int .i64 (s.2.getD st1.toNat (0, 0, 0)).2.2])] ?_
        refine zS 2 [(1, .bp 1 0), (3, .int .i64 st1), (4, .bp 4 0), (22, .sl Y0 s.2), (23, .int .i64 (s.2.length : Int)), (24, .int .i64 st1), (34, .bool (!v0))] [(1, .box 24 [.int .i64 s.1, .sl Y0 s.2]), (4, .box 66 [.int .i64 (s.2.getD st1.toNat (0, 0, 0)).1, .int .i64 (s.2.getD st1.toNat (0, 0, 0)).2.1, .int .i64 (s.2.getD st1.toNat (0, 0, 0)).2.2])] ?_
        rcases zI h with ⟨hb16, h⟩ | ⟨hb16, h⟩
        ·refine zS 4 [(1, .bp 1 0), (3, .int .i64 st1), (4, .bp 4 0), (22, .sl Y0 s.2), (23, .int .i64 (s.2.length : Int)), (24, .int .i64 st1), (34, .bool true), (38, .cv (undef))] [(1, .box 24 [.int .i64 s.1, .sl Y0 s.2]), (4, .box 66 [.int .i64 (s.2.getD st1.toNat (0, 0, 0)).1, .int .i64 (s.2.getD st1.toNat (0, 0, 0)).2.1, .int .i64 (s.2.getD st1.toNat (0, 0, 0)).2.2])] ?_
         refine zS 5 [(1, .bp 1 0), (3, .int .i64 st1), (4, .bp 4 0), (22, .sl Y0 s.2), (23, .int .i64 (s.2.length : Int)), (24, .int .i64 st1), (41, .bool true), (43, .cv (undef))] [(1, .box 24 [.int .i64 s.1, .sl Y0 s.2]), (4, .box 66 [.int .i64 (s.2.getD st1.toNat (0, 0, 0)).1, .int .i64 (s.2.getD st1.toNat (0, 0, 0)).2.1, .int .i64 (s.2.getD st1.toNat (0, 0, 0)).2.2])] ?_
         refine zS 5 [(1, .bp 1 0), (3, .int .i64 st1), (4, .bp 4 0), (22, .sl Y0 s.2), (23, .int .i64 (s.2.length : Int)), (24, .int .i64 st1), (46, .bool true), (48, .cv (undef))] [(1, .box 24 [.int .i64 s.1, .sl Y0 s.2]), (4, .box 66 [.int .i64 (s.2.getD st1.toNat (0, 0, 0)).1, .int .i64 (s.2.getD st1.toNat (0, 0, 0)).2.1, .int .i64 (s.2.getD st1.toNat (0, 0, 0)).2.2])] ?_
         refine zB [(1, .bp 1 0), (3, .int .i64 st1), (4, .bp 4 0), (22, .sl Y0 s.2), (23, .int .i64 (s.2.length : Int)), (24, .int .i64 st1), (50, .bool true)] [(1, .box 24 [.int .i64 s.1, .sl Y0 s.2]), (4, .box 66 [.int .i64 (s.2.getD st1.toNat (0, 0, 0)).1, .int .i64 (s.2.getD st1.toNat (0, 0, 0)).2.1, .int .i64 (s.2.getD st1.toNat (0, 0, 0)).2.2])] ?_
         refine AW.cond (b := true) rfl (fun _ => ?_) (fun hb17 => by cases hb17)
         refine zo ?_
         refine zB [(2, .bool false)] [] ?_
         refine zr ?_
         refine ablock_r ?_
         refine athen_r ?_
         obtain rfl := Option.some.inj h
         rw [← hd8 _ rfl] at ho7
         have h := ho7
         try simp only at h
         refine athen_r ?_
         refine ablock_r ?_
         refine athen_r ?_
         obtain rfl := Option.some.inj h
         exact zR [] [] []
        ·refine zS 3 [(1, .bp 1 0), (3, .int .i64 st1), (4, .bp 4 0), (22, .sl Y0 s.2), (23, .int .i64 (s.2.length : Int)), (24, .int .i64 st1), (34, .bool false), (35, .agg [.int .i64 s.1, .sl Y0 s.2]), (37, .int .i64 (s.2.getD st1.toNat (0, 0, 0)).2.2)] [(1, .box 24 [.int .i64 s.1, .sl Y0 s.2]), (4, .box 66 [.int .i64 (s.2.getD st1.toNat (0, 0, 0)).1, .int .i64 (s.2.getD st1.toNat (0, 0, 0)).2.1, .int .i64 (s.2.getD st1.toNat (0, 0, 0)).2.2])] ?_
         obtain ⟨v0_2, hv18, h⟩ := Option.bind_eq_some_iff.1 h
         refine zG [] [] (hc_linealref05_IsState s (s.2.getD st1.toNat (0, 0, 0)).2.2 hv18) [(1, .bp 1 0), (3, .int .i64 st1), (4, .bp 4 0), (22, .sl Y0 s.2), (23, .int .i64 (s.2.length : Int)), (24, .int .i64 st1), (34, .bool false), (38, .bool v0_2)] [(1, .box 24 [.int .i64 s.1, .sl Y0 s.2]), (4, .box 66 [.int .i64 (s.2.getD st1.toNat (0, 0, 0)).1, .int .i64 (s.2.getD st1.toNat (0, 0, 0)).2.1, .int .i64 (s.2.getD st1.toNat (0, 0, 0)).2.2])] ?_
         refine zS 3 [(1, .bp 1 0), (3, .int .i64 st1), (4, .bp 4 0), (22, .sl Y0 s.2), (23, .int .i64 (s.2.length : Int)), (24, .int .i64 st1), (41, .bool (!v0_2))] [(1, .box 24 [.int .i64 s.1, .sl Y0 s.2]), (4, .box 66 [.int .i64 (s.2.getD st1.toNat (0, 0, 0)).1, .int .i64 (s.2.getD st1.toNat (0, 0, 0)).2.1, .int .i64 (s.2.getD st1.toNat (0, 0, 0)).2.2])] ?_
         rcases zI h with ⟨hb19, h⟩ | ⟨hb19, h⟩
         ·refine zS 5 [(1, .bp 1 0), (3, .int .i64 st1), (4, .bp 4 0), (22, .sl Y0 s.2), (23, .int .i64 (s.2.length : Int)), (24, .int .i64 st1), (46, .bool true)] [(1, .box 24 [.int .i64 s.1, .sl Y0 s.2]), (4, .box 66 [.int .i64 (s.2.getD st1.toNat (0, 0, 0)).1, .int .i64 (s.2.getD st1.toNat (0, 0, 0)).2.1, .int .i64 (s.2.getD st1.toNat (0, 0, 0)).2.2])] ?_
          refine zB [(1, .bp 1 0), (3, .int .i64 st1), (4, .bp 4 0), (22, .sl Y0 s.2), (23, .int .i64 (s.2.length : Int)), (24, .int .i64 st1), (50, .bool true)] [(1, .box 24 [.int .i64 s.1, .sl Y0 s.2]), (4, .box 66 [.int .i64 (s.2.getD st1.toNat (0, 0, 0)).1, .int .i64 (s.2.getD st1.toNat (0, 0, 0)).2.1, .int .i64 (s.2.getD st1.toNat (0, 0, 0)).2.2])] ?_
          refine AW.cond (b := true) rfl (fun _ => ?_) (fun hb20 => by cases hb20)
          refine zo ?_
          refine zB [(2, .bool false)] [] ?_
          refine zr ?_
          refine ablock_r ?_
          refine athen_r ?_
          obtain rfl := Option.some.inj h
          rw [← hd8 _ rfl] at ho7
          have h := ho7
          try simp only at h
          refine athen_r ?_
          refine ablock_r ?_
          refine athen_r ?_
          obtain rfl := Option.some.inj h
          exact zR [] [] []
         ·refine zS 5 [(1, .bp 1 0), (3, .int .i64 st1), (4, .bp 4 0), (22, .sl Y0 s.2), (23, .int .i64 (s.2.length : Int)), (24, .int .i64 st1), (46, .bool (decide ((s.2.getD st1.toNat (0, 0, 0)).2.1 < 0)))] [(1, .box 24 [.int .i64 s.1, .sl Y0 s.2]), (4, .box 66 [.int .i64 (s.2.getD st1.toNat (0, 0, 0)).1, .int .i64 (s.2.getD st1.toNat (0, 0, 0)).2.1, .int .i64 (s.2.getD st1.toNat (0, 0, 0)).2.2])] ?_
          rcases zI h with ⟨hb21, h⟩ | ⟨hb21, h⟩
          ·refine zB [(1, .bp 1 0), (3, .int .i64 st1), (4, .bp 4 0), (22, .sl Y0 s.2), (23, .int .i64 (s.2.length : Int)), (24, .int .i64 st1), (50, .bool true)] [(1, .box 24 [.int .i64 s.1, .sl Y0 s.2]), (4, .box 66 [.int .i64 (s.2.getD st1.toNat (0, 0, 0)).1, .int .i64 (s.2.getD st1.toNat (0, 0, 0)).2.1, .int .i64 (s.2.getD st1.toNat (0, 0, 0)).2.2])] ?_
           refine AW.cond (b := true) rfl (fun _ => ?_) (fun hb22 => by cases hb22)
           refine zo ?_
           refine zB [(2, .bool false)] [] ?_
           refine zr ?_
           refine ablock_r ?_
           refine athen_r ?_
           obtain rfl := Option.some.inj h
           rw [← hd8 _ rfl] at ho7
           have h := ho7
           try simp only at h
           refine athen_r ?_
           refine ablock_r ?_
           refine athen_r ?_
           obtain rfl := Option.some.inj h
           exact zR [] [] []
          ·refine zB [(1, .bp 1 0), (3, .int .i64 st1), (4, .bp 4 0), (22, .sl Y0 s.2), (23, .int .i64 (s.2.length : Int)), (24, .int .i64 st1), (50, .bool (decide (3 < (s.2.getD st1.toNat (0, 0, 0)).2.1)))] [(1, .box 24 [.int .i64 s.1, .sl Y0 s.2]), (4, .box 66 [.int .i64 (s.2.getD st1.toNat (0, 0, 0)).1, .int .i64 (s.2.getD st1.toNat (0, 0, 0)).2.1, .int .i64 (s.2.getD st1.toNat (0, 0, 0)).2.2])] ?_
           refine zQ h (fun hb23 h => ?_) (fun hb23 h => ?_)
           ·refine zo ?_
            refine zB [(2, .bool false)] [] ?_
            refine zr ?_
            refine ablock_r ?_
            refine athen_r ?_
            obtain rfl := Option.some.inj h
            rw [← hd8 _ rfl] at ho7
            have h := ho7
            try simp only at h
            refine athen_r ?_
            refine ablock_r ?_
            refine athen_r ?_
            obtain rfl := Option.some.inj h
            exact zR [] [] []
           ·refine zk ?_
            refine zo ?_
            obtain ⟨c24, h⟩ := ck_some.1 h
            obtain ⟨c25, h⟩ := ck_some.1 h
            refine zS 5 [(1, .bp 1 0), (4, .bp 4 0), (22, .sl Y0 s.2), (23, .int .i64 (s.2.length : Int)), (24, .int .i64 st1), (54, .sl Y0 (s.2.take st1.toNat)), (55, .int .i64 ((s.2.take st1.toNat).length : Int))] [(1, .box 24 [.int .i64 s.1, .sl Y0 s.2]), (4, .box 66 [.int .i64 (s.2.getD st1.toNat (0, 0, 0)).1, .int .i64 (s.2.getD st1.toNat (0, 0, 0)).2.1, .int .i64 (s.2.getD st1.toNat (0, 0, 0)).2.2])] ?_
            refine zB [(1, .bp 1 0), (4, .bp 4 0), (22, .sl Y0 s.2), (23, .int .i64 (s.2.length : Int)), (24, .int .i64 st1), (54, .sl Y0 (s.2.take st1.toNat)), (55, .int .i64 ((s.2.take st1.toNat).length : Int)), (56, .int .i64 0)] [(1, .box 24 [.int .i64 s.1, .sl Y0 s.2]), (4, .box 66 [.int .i64 (s.2.getD st1.toNat (0, 0, 0)).1, .int .i64 (s.2.getD st1.toNat (0, 0, 0)).2.1, .int .i64 (s.2.getD st1.toNat (0, 0, 0)).2.2])] ?_
            refine AW.block ?_
            obtain ⟨rv30, hw26, ho27⟩ := Option.bind_eq_some_iff.1 h
            refine AW.loopO (linealref05_Valid_b2 s st1) (fun st2 => ⟨fr [(1, .bp 1 0), (4, .bp 4 0), (22, .sl Y0 s.2), (23, .int .i64 (s.2.length : Int)), (24, .int .i64 st1), (54, .sl Y0 (s.2.take st1.toNat)), (55, .int .i64 ((s.2.take st1.toNat).length : Int)), (56, .int .i64 st2)], hpGet [(1, .box 24 [.int .i64 s.1, .sl Y0 s.2]), (4, .box 66 [.int .i64 (s.2.getD st1.toNat (0, 0, 0)).1, .int .i64 (s.2.getD st1.toNat (0, 0, 0)).2.1, .int .i64 (s.2.getD st1.toNat (0, 0, 0)).2.2])], gt⟩) 0 hw26 (zL [] [] []) ?_
            as_aux_lemma =>
             intro st2 x29 h hd28
             unfold linealref05_Valid_b2 at h
             refine zo ?_
             refine zB [(1, .bp 1 0), (4, .bp 4 0), (22, .sl Y0 s.2), (23, .int .i64 (s.2.length : Int)), (24, .int .i64 st1), (54, .sl Y0 (s.2.take st1.toNat)), (55, .int .i64 ((s.2.take st1.toNat).length : Int)), (56, .int .i64 st2), (57, .bool (decide (st2 < ((s.2.take st1.toNat).length : Int))))] [(1, .box 24 [.int .i64 s.1, .sl Y0 s.2]), (4, .box 66 [.int .i64 (s.2.getD st1.toNat (0, 0, 0)).1, .int .i64 (s.2.getD st1.toNat (0, 0, 0)).2.1, .int .i64 (s.2.getD st1.toNat (0, 0, 0)).2.2])] ?_
             refine AW.seq ?_
             refine zQ h (fun hb31 h => ?_) (fun hb31 h => ?_)
             ·refine zk ?_
              refine AW.seq ?_
              refine AW.block ?_
              refine zo ?_
              obtain ⟨c32, h⟩ := ck_some.1 h
              obtain ⟨c33, h⟩ := ck_some.1 h
              refine zB [(1, .bp 1 0), (4, .bp 4 0), (6, .bp 6 0), (22, .sl Y0 s.2), (23, .int .i64 (s.2.length : Int)), (24, .int .i64 st1), (54, .sl Y0 (s.2.take st1.toNat)), (55, .int .i64 ((s.2.take st1.toNat).length : Int)), (56, .int .i64 st2)] [(1, .box 24 [.int .i64 s.1, .sl Y0 s.2]), (4, .box 66 [.int .i64 (s.2.getD st1.toNat (0, 0, 0)).1, .int .i64 (s.2.getD st1.toNat (0, 0, 0)).2.1, .int .i64 (s.2.getD st1.toNat (0, 0, 0)).2.2]), (6, .box 66 [.int .i64 ((s.2.take st1.toNat).getD st2.toNat (0, 0, 0)).1, .int .i64 ((s.2.take st1.toNat).getD st2.toNat (0, 0, 0)).2.1, .int .i64 ((s.2.take st1.toNat).getD st2.toNat (0, 0, 0)).2.2])] ?_
              refine zo ?_
              refine zS 2 [(1, .bp 1 0), (4, .bp 4 0), (22, .sl Y0 s.2), (23, .int .i64 (s.2.length : Int)), (24, .int .i64 st1), (54, .sl Y0 (s.2.take st1.toNat)), (55, .int .i64 ((s.2.take st1.toNat).length : Int)), (56, .int .i64 st2), (60, .agg [.int .i64 (s.2.getD st1.toNat (0, 0, 0)).1, .int .i64 (s.2.getD st1.toNat (0, 0, 0)).2.1, .int .i64 (s.2.getD st1.toNat (0, 0, 0)).2.2]), (61, .agg [.int .i64 ((s.2.take st1.toNat).getD st2.toNat (0, 0, 0)).1, .int .i64 ((s.2.take st1.toNat).getD st2.toNat (0, 0, 0)).2.1, .int .i64 ((s.2.take st1.toNat).getD st2.toNat (0, 0, 0)).2.2])] [(1, .box 24 [.int .i64 s.1, .sl Y0 s.2]), (4, .box 66 [.int .i64 (s.2.getD st1.toNat (0, 0, 0)).1, .int .i64 (s.2.getD st1.toNat (0, 0, 0)).2.1, .int .i64 (s.2.getD st1.toNat (0, 0, 0)).2.2])] ?_
              obtain ⟨c34, h⟩ := ck_some.1 h
              obtain ⟨c35, h⟩ := ck_some.1 h
              obtain ⟨c36, h⟩ := ck_some.1 h
              obtain ⟨c37, h⟩ := ck_some.1 h
              obtain ⟨c38, h⟩ := ck_some.1 h
              obtain ⟨c39, h⟩ := ck_some.1 h
              refine AO.aggEq (neg := false) eqty_66 (by decide) rfl rfl (lx := [.int .i64 (s.2.getD st1.toNat (0, 0, 0)).1, .int .i64 (s.2.getD st1.toNat (0, 0, 0)).2.1, .int .i64 (s.2.getD st1.toNat (0, 0, 0)).2.2]) (ly := [.int .i64 ((s.2.take st1.toNat).getD st2.toNat (0, 0, 0)).1, .int .i64 ((s.2.take st1.toNat).getD st2.toNat (0, 0, 0)).2.1, .int .i64 ((s.2.take st1.toNat).getD st2.toNat (0, 0, 0)).2.2]) (by first | rfl | (simp only [go_sem, hb1, hb3, hb5, hb11, hb16, hb19, hb21, hb23, hb31]) <;> (with_reducible and_intros) <;> first | assumption | rfl | omega | (unfold maxLen; omega)) (by first | rfl | (simp only [go_sem, hb1, hb3, hb5, hb11, hb16, hb19, hb21, hb23, hb31]) <;> (with_reducible and_intros) <;> first | assumption | rfl | omega | (unfold maxLen; omega)) (by first | rfl | (simp only [go_sem, hb1, hb3, hb5, hb11, hb16, hb19, hb21, hb23, hb31]) <;> (with_reducible and_intros) <;> first | assumption | rfl | omega | (unfold maxLen; omega)) (by first | rfl | (simp only [go_sem, hb1, hb3, hb5, hb11, hb16, hb19, hb21, hb23, hb31]) <;> (with_reducible and_intros) <;> first | assumption | rfl | omega | (unfold maxLen; omega)) (by first | assumption | omega | (simp only [go_sem, hb1, hb3, hb5, hb11, hb16, hb19, hb21, hb23, hb31]) <;> (with_reducible and_intros) <;> first | assumption | rfl | omega | (unfold maxLen; omega)) (by first | assumption | omega | (simp only [go_sem, hb1, hb3, hb5, hb11, hb16, hb19, hb21, hb23, hb31]) <;> (with_reducible and_intros) <;> first | assumption | rfl | omega | (unfold maxLen; omega)) ?_
              refine zT [(1, .bp 1 0), (4, .bp 4 0), (22, .sl Y0 s.2), (23, .int .i64 (s.2.length : Int)), (24, .int .i64 st1), (54, .sl Y0 (s.2.take st1.toNat)), (55, .int .i64 ((s.2.take st1.toNat).length : Int)), (56, .int .i64 st2), (62, .bool (decide ((s.2.getD st1.toNat (0, 0, 0)) = ((s.2.take st1.toNat).getD st2.toNat (0, 0, 0)))))] [(1, .box 24 [.int .i64 s.1, .sl Y0 s.2]), (4, .box 66 [.int .i64 (s.2.getD st1.toNat (0, 0, 0)).1, .int .i64 (s.2.getD st1.toNat (0, 0, 0)).2.1, .int .i64 (s.2.getD st1.toNat (0, 0, 0)).2.2])] gt ?_
              refine zB [(1, .bp 1 0), (4, .bp 4 0), (22, .sl Y0 s.2), (23, .int .i64 (s.2.length : Int)), (24, .int .i64 st1), (54, .sl Y0 (s.2.take st1.toNat)), (55, .int .i64 ((s.2.take st1.toNat).length : Int)), (56, .int .i64 st2), (62, .bool (decide ((s.2.getD st1.toNat (0, 0, 0)) = ((s.2.take st1.toNat).getD st2.toNat (0, 0, 0)))))] [(1, .box 24 [.int .i64 s.1, .sl Y0 s.2]), (4, .box 66 [.int .i64 (s.2.getD st1.toNat (0, 0, 0)).1, .int .i64 (s.2.getD st1.toNat (0, 0, 0)).2.1, .int .i64 (s.2.getD st1.toNat (0, 0, 0)).2.2])] ?_
              refine zQ h (fun hb40 h => ?_) (fun hb40 h => ?_)
              ·refine zo ?_
               refine zB [(2, .bool false)] [] ?_
               refine AW.ret ?_
               refine ablock_r ?_
               refine athen_r ?_
               obtain rfl := Option.some.inj h
               rw [← hd28 _ rfl] at ho27
               have h := ho27
               try simp only at h
               refine athen_r ?_
               refine ablock_r ?_
               refine ablock_r ?_
               refine athen_r ?_
               obtain rfl := Option.some.inj h
               rw [← hd8 _ rfl] at ho7
               have h := ho7
               try simp only at h
               refine athen_r ?_
               refine ablock_r ?_
               refine athen_r ?_
               obtain rfl := Option.some.inj h
               exact zR [] [] []
              ·refine zm ?_
               refine athen_n ?_
               refine AW.ops ?_
               obtain ⟨c41, h⟩ := ck_some.1 h
               refine zA [(1, .bp 1 0), (4, .bp 4 0), (22, .sl Y0 s.2), (23, .int .i64 (s.2.length : Int)), (24, .int .i64 st1), (54, .sl Y0 (s.2.take st1.toNat)), (55, .int .i64 ((s.2.take st1.toNat).length : Int)), (56, .int .i64 (st2 + 1))] [(1, .box 24 [.int .i64 s.1, .sl Y0 s.2]), (4, .box 66 [.int .i64 (s.2.getD st1.toNat (0, 0, 0)).1, .int .i64 (s.2.getD st1.toNat (0, 0, 0)).2.1, .int .i64 (s.2.getD st1.toNat (0, 0, 0)).2.2])] ?_
               obtain rfl := Option.some.inj h
               exact ⟨_, rfl, zL [] [] []⟩
             ·refine AW.exit ?_
              refine athen_e ?_
              obtain rfl := Option.some.inj h
              rw [← hd28 _ rfl] at ho27
              have h := ho27
              try simp only at h
              refine athen_e ?_
              refine ablock_s ?_
              refine ablock_n ?_
              refine athen_n ?_
              exact AW.weaken (zL [] [] []) (hk_linealref05_Valid_k2 () h)
      ·refine AW.exit ?_
       refine athen_e ?_
       obtain rfl := Option.some.inj h
       rw [← hd8 _ rfl] at ho7
       have h := ho7
       try simp only at h
       refine athen_e ?_
       refine ablock_s ?_
       refine athen_n ?_
       exact AW.weaken (zL [] [] []) (hk_linealref05_Valid_k1 () h)

theorem hc_linealref05_step (s : Int × (List (Int × Int × Int))) (set0 : Int) (label : Int) {r : Int} (h : linealref05_step s set0 label = some r) : HC Try.prog 104 [] [.agg [.int .i64 s.1, .sl Y0 s.2], .int .i64 set0, .int .i64 label] [] (.int .i64 r) := by
 unfold linealref05_step at h
 refine zH Try.func104 [.tmp 6] 36 ?_
 refine zo ?_
 refine zB [(1, .int .i64 set0), (2, .int .i64 label), (3, .bp 3 0)] [(3, .box 24 [.int .i64 s.1, .sl Y0 s.2])] ?_
 refine zo ?_
 refine zB [(1, .int .i64 set0), (2, .int .i64 label), (3, .bp 3 0), (7, .int .i64 0)] [(3, .box 24 [.int .i64 s.1, .sl Y0 s.2])] ?_
 refine AW.have1 (fun b1 : Int => linealref05_step_k1 b1 = some r) (fun b1 => ⟨fr [(7, .int .i64 b1)], hpGet [], gt⟩) (fun b1 h => ?_) (fun hk_linealref05_step_k1 => ?_)
 ·as_aux_lemma =>
   unfold linealref05_step_k1 at h
   refine zo ?_
   refine zB [(6, .int .i64 b1)] [] ?_
   refine AW.ret ?_
   obtain rfl := Option.some.inj h
   exact zR [] [] []
 ·refine AW.seq ?_
  refine zo ?_
  refine zB [(1, .int .i64 set0), (2, .int .i64 label), (7, .int .i64 0), (11, .sl Y0 s.2), (12, .int .i64 (s.2.length : Int)), (13, .int .i64 0)] [] ?_
  refine AW.block ?_
  obtain ⟨rv5, hw1, ho2⟩ := Option.bind_eq_some_iff.1 h
  refine AW.loopO (linealref05_step_b1 s set0 label) (fun st1 => ⟨fr [(1, .int .i64 set0), (2, .int .i64 label), (7, .int .i64 st1.1), (11, .sl Y0 s.2), (12, .int .i64 (s.2.length : Int)), (13, .int .i64 st1.2)], hpGet [], gt⟩) (0, 0) hw1 (zL [] [] []) ?_
  as_aux_lemma =>
   intro st1 x4 h hd3
   unfold linealref05_step_b1 at h
   refine zo ?_
   refine zB [(1, .int .i64 set0), (2, .int .i64 label), (7, .int .i64 st1.1), (11, .sl Y0 s.2), (12, .int .i64 (s.2.length : Int)), (13, .int .i64 st1.2), (14, .bool (decide (st1.2 < (s.2.length : Int))))] [] ?_
   refine AW.seq ?_
   refine zQ h (fun hb6 h => ?_) (fun hb6 h => ?_)
   ·refine zk ?_
    refine AW.seq ?_
    refine AW.block ?_
    refine zo ?_
    obtain ⟨c7, h⟩ := ck_some.1 h
    obtain ⟨c8, h⟩ := ck_some.1 h
    refine zB [(1, .int .i64 set0), (2, .int .i64 label), (7, .int .i64 st1.1), (9, .bp 9 0), (11, .sl Y0 s.2), (12, .int .i64 (s.2.length : Int)), (13, .int .i64 st1.2)] [(9, .box 66 [.int .i64 (s.2.getD st1.2.toNat (0, 0, 0)).1, .int .i64 (s.2.getD st1.2.toNat (0, 0, 0)).2.1, .int .i64 (s.2.getD st1.2.toNat (0, 0, 0)).2.2])] ?_
    refine zo ?_
    refine zS 5 [(1, .int .i64 set0), (2, .int .i64 label), (7, .int .i64 st1.1), (9, .bp 9 0), (11, .sl Y0 s.2), (12, .int .i64 (s.2.length : Int)), (13, .int .i64 st1.2), (21, .bool (decide ((s.2.getD st1.2.toNat (0, 0, 0)).2.1 = label)))] [(9, .box 66 [.int .i64 (s.2.getD st1.2.toNat (0, 0, 0)).1, .int .i64 (s.2.getD st1.2.toNat (0, 0, 0)).2.1, .int .i64 (s.2.getD st1.2.toNat (0, 0, 0)).2.2])] ?_
    rcases zI h with ⟨hb9, h⟩ | ⟨hb9, h⟩
    ·obtain ⟨c10, h⟩ := ck_some.1 h
     refine zS 5 [(1, .int .i64 set0), (2, .int .i64 label), (7, .int .i64 st1.1), (9, .bp 9 0), (11, .sl Y0 s.2), (12, .int .i64 (s.2.length : Int)), (13, .int .i64 st1.2), (21, .bool true), (26, .int .i64 (iand .i64 (ishr .i64 set0 (s.2.getD st1.2.toNat (0, 0, 0)).1) 1))] [(9, .box 66 [.int .i64 (s.2.getD st1.2.toNat (0, 0, 0)).1, .int .i64 (s.2.getD st1.2.toNat (0, 0, 0)).2.1, .int .i64 (s.2.getD st1.2.toNat (0, 0, 0)).2.2])] ?_
     refine zB [(1, .int .i64 set0), (2, .int .i64 label), (7, .int .i64 st1.1), (9, .bp 9 0), (11, .sl Y0 s.2), (12, .int .i64 (s.2.length : Int)), (13, .int .i64 st1.2), (28, .bool (decide ((iand .i64 (ishr .i64 set0 (s.2.getD st1.2.toNat (0, 0, 0)).1) 1) = 1)))] [(9, .box 66 [.int .i64 (s.2.getD st1.2.toNat (0, 0, 0)).1, .int .i64 (s.2.getD st1.2.toNat (0, 0, 0)).2.1, .int .i64 (s.2.getD st1.2.toNat (0, 0, 0)).2.2])] ?_
     refine zQ h (fun hb11 h => ?_) (fun hb11 h => ?_)
     ·refine AW.ops ?_
      obtain ⟨c12, h⟩ := ck_some.1 h
      refine zS 5 [(1, .int .i64 set0), (2, .int .i64 label), (11, .sl Y0 s.2), (12, .int .i64 (s.2.length : Int)), (13, .int .i64 st1.2), (33, .int .i64 (ior .i64 st1.1 (ishl .i64 1 (s.2.getD st1.2.toNat (0, 0, 0)).2.2)))] [] ?_
      refine zA [(1, .int .i64 set0), (2, .int .i64 label), (7, .int .i64 (ior .i64 st1.1 (ishl .i64 1 (s.2.getD st1.2.toNat (0, 0, 0)).2.2))), (11, .sl Y0 s.2), (12, .int .i64 (s.2.length : Int)), (13, .int .i64 st1.2)] [] ?_
      refine ablock_n ?_
      refine athen_n ?_
      refine AW.ops ?_
      obtain ⟨c13, h⟩ := ck_some.1 h
      refine zA [(1, .int .i64 set0), (2, .int .i64 label), (7, .int .i64 (ior .i64 st1.1 (ishl .i64 1 (s.2.getD st1.2.toNat (0, 0, 0)).2.2))), (11, .sl Y0 s.2), (12, .int .i64 (s.2.length : Int)), (13, .int .i64 (st1.2 + 1))] [] ?_
      obtain rfl := Option.some.inj h
      exact ⟨_, rfl, zL [] [] []⟩
     ·refine zm ?_
      refine athen_n ?_
      refine AW.ops ?_
      obtain ⟨c14, h⟩ := ck_some.1 h
      refine zA [(1, .int .i64 set0), (2, .int .i64 label), (7, .int .i64 st1.1), (11, .sl Y0 s.2), (12, .int .i64 (s.2.length : Int)), (13, .int .i64 (st1.2 + 1))] [] ?_
      obtain rfl := Option.some.inj h
      exact ⟨_, rfl, zL [] [] []⟩
    ·refine zS 4 [(1, .int .i64 set0), (2, .int .i64 label), (7, .int .i64 st1.1), (9, .bp 9 0), (11, .sl Y0 s.2), (12, .int .i64 (s.2.length : Int)), (13, .int .i64 st1.2), (21, .bool false), (25, .cv (undef))] [(9, .box 66 [.int .i64 (s.2.getD st1.2.toNat (0, 0, 0)).1, .int .i64 (s.2.getD st1.2.toNat (0, 0, 0)).2.1, .int .i64 (s.2.getD st1.2.toNat (0, 0, 0)).2.2])] ?_
     refine zB [(1, .int .i64 set0), (2, .int .i64 label), (7, .int .i64 st1.1), (9, .bp 9 0), (11, .sl Y0 s.2), (12, .int .i64 (s.2.length : Int)), (13, .int .i64 st1.2), (28, .bool false)] [(9, .box 66 [.int .i64 (s.2.getD st1.2.toNat (0, 0, 0)).1, .int .i64 (s.2.getD st1.2.toNat (0, 0, 0)).2.1, .int .i64 (s.2.getD st1.2.toNat (0, 0, 0)).2.2])] ?_
     refine AW.cond (b := false) rfl (fun hb15 => by cases hb15) (fun _ => ?_)
     refine zm ?_
     refine athen_n ?_
     refine AW.ops ?_
     obtain ⟨c16, h⟩ := ck_some.1 h
     refine zA [(1, .int .i64 set0), (2, .int .i64 label), (7, .int .i64 st1.1), (11, .sl Y0 s.2), (12, .int .i64 (s.2.length : Int)), (13, .int .i64 (st1.2 + 1))] [] ?_
     obtain rfl := Option.some.inj h
     exact ⟨_, rfl, zL [] [] []⟩
   ·refine AW.exit ?_
    refine athen_e ?_
    obtain rfl := Option.some.inj h
    rw [← hd3 _ rfl] at ho2
    have h := ho2
    refine athen_e ?_
    refine ablock_s ?_
    refine athen_n ?_
    exact AW.weaken (zL [] [] []) (hk_linealref05_step_k1 _ h)

theorem hc_linealref05_quiet (s : Int × (List (Int × Int × Int))) (set0 : Int) {r : Int} (h : linealref05_quiet s set0 = some r) : HC Try.prog 95 [] [.agg [.int .i64 s.1, .sl Y0 s.2], .int .i64 set0] [] (.int .i64 r) := by
 unfold linealref05_quiet at h
 refine zH Try.func95 [.tmp 4] 16 ?_
 refine zo ?_
 refine zB [(1, .int .i64 set0), (2, .bp 2 0)] [(2, .box 24 [.int .i64 s.1, .sl Y0 s.2])] ?_
 refine AW.have1 (fun b1 : Int => linealref05_quiet_k1 b1 = some r) (fun b1 => ⟨fr [(1, .int .i64 b1)], hpGet [], gt⟩) (fun b1 h => ?_) (fun hk_linealref05_quiet_k1 => ?_)
 ·as_aux_lemma =>
   unfold linealref05_quiet_k1 at h
   refine zo ?_
   refine zB [(4, .int .i64 b1)] [] ?_
   refine AW.ret ?_
   obtain rfl := Option.some.inj h
   exact zR [] [] []
 ·refine AW.seq ?_
  refine zo ?_
  refine zB [(1, .int .i64 set0), (2, .bp 2 0), (6, .int .i64 s.1), (7, .int .i64 0)] [(2, .box 24 [.int .i64 s.1, .sl Y0 s.2])] ?_
  refine AW.block ?_
  obtain ⟨rv5, hw1, ho2⟩ := Option.bind_eq_some_iff.1 h
  refine AW.loopO (linealref05_quiet_b1 s) (fun st1 => ⟨fr [(1, .int .i64 st1.1), (2, .bp 2 0), (6, .int .i64 s.1), (7, .int .i64 st1.2)], hpGet [(2, .box 24 [.int .i64 s.1, .sl Y0 s.2])], gt⟩) (set0, 0) hw1 (zL [] [] []) ?_
  as_aux_lemma =>
   intro st1 x4 h hd3
   unfold linealref05_quiet_b1 at h
   refine zo ?_
   refine zB [(1, .int .i64 st1.1), (2, .bp 2 0), (6, .int .i64 s.1), (7, .int .i64 st1.2), (8, .bool (decide (st1.2 < s.1)))] [(2, .box 24 [.int .i64 s.1, .sl Y0 s.2])] ?_
   refine AW.seq ?_
   refine zQ h (fun hb6 h => ?_) (fun hb6 h => ?_)
   ·refine zk ?_
    refine AW.seq ?_
    refine AW.block ?_
    refine AW.ops ?_
    refine zS 3 [(2, .bp 2 0), (6, .int .i64 s.1), (7, .int .i64 st1.2), (9, .int .i64 st1.1), (10, .agg [.int .i64 s.1, .sl Y0 s.2]), (11, .int .i64 st1.1)] [(2, .box 24 [.int .i64 s.1, .sl Y0 s.2])] ?_
    obtain ⟨v0, hv7, h⟩ := Option.bind_eq_some_iff.1 h
    refine zC [] [] (hc_linealref05_step s st1.1 0 hv7) [(2, .bp 2 0), (6, .int .i64 s.1), (7, .int .i64 st1.2), (9, .int .i64 st1.1), (12, .int .i64 v0)] [(2, .box 24 [.int .i64 s.1, .sl Y0 s.2])] ?_
    refine zA [(1, .int .i64 (ior .i64 st1.1 v0)), (2, .bp 2 0), (6, .int .i64 s.1), (7, .int .i64 st1.2)] [(2, .box 24 [.int .i64 s.1, .sl Y0 s.2])] ?_
    refine ablock_n ?_
    refine athen_n ?_
    refine AW.ops ?_
    obtain ⟨c8, h⟩ := ck_some.1 h
    refine zA [(1, .int .i64 (ior .i64 st1.1 v0)), (2, .bp 2 0), (6, .int .i64 s.1), (7, .int .i64 (st1.2 + 1))] [(2, .box 24 [.int .i64 s.1, .sl Y0 s.2])] ?_
    obtain rfl := Option.some.inj h
    exact ⟨_, rfl, zL [] [] []⟩
   ·refine AW.exit ?_
    refine athen_e ?_
    obtain rfl := Option.some.inj h
    rw [← hd3 _ rfl] at ho2
    have h := ho2
    refine athen_e ?_
    refine ablock_s ?_
    refine athen_n ?_
    exact AW.weaken (zL [] [] []) (hk_linealref05_quiet_k1 _ h)

theorem hc_linealref05_comes (s : Int × (List (Int × Int × Int))) (set0 : Int) (label : Int) {r : Int} (h : linealref05_comes s set0 label = some r) : HC Try.prog 64 [] [.agg [.int .i64 s.1, .sl Y0 s.2], .int .i64 set0, .int .i64 label] [] (.int .i64 r) := by
 unfold linealref05_comes at h
 refine zH Try.func64 [.tmp 6] 20 ?_
 refine zo ?_
 refine zB [(1, .int .i64 set0), (2, .int .i64 label), (3, .bp 3 0)] [(3, .box 24 [.int .i64 s.1, .sl Y0 s.2])] ?_
 refine AW.seq ?_
 refine zo ?_
 refine zB [(1, .int .i64 set0), (2, .int .i64 label), (3, .bp 3 0), (8, .bool (decide (label = 0)))] [(3, .box 24 [.int .i64 s.1, .sl Y0 s.2])] ?_
 refine zQ h (fun hb1 h => ?_) (fun hb1 h => ?_)
 ·refine zo ?_
  refine zS 2 [(9, .agg [.int .i64 s.1, .sl Y0 s.2]), (10, .int .i64 set0)] [] ?_
  obtain ⟨v0, hv2, h⟩ := Option.bind_eq_some_iff.1 h
  refine zC [] [] (hc_linealref05_quiet s set0 hv2) [(11, .int .i64 v0)] [] ?_
  refine zB [(6, .int .i64 v0)] [] ?_
  refine zr ?_
  obtain rfl := Option.some.inj h
  exact zR [] [] []
 ·refine zk ?_
  refine AW.seq ?_
  refine AW.draw tab_ok mixed_ok [] [] (by decide) (lex_fast (by kernel_rfl)) ?_
  as_aux_lemma =>
   refine adops_cut 4 (fun K' hK3 => ?_)
   try dsimp only [List.drop_succ_cons, List.drop_zero, List.take_succ_cons, List.take_zero]
   simp only [go_sem, hb1]
   repeat with_reducible refine zN ?_
   refine hK3 _ ?_
   as_aux_lemma =>
    obtain ⟨v0_2, hv4, h⟩ := Option.bind_eq_some_iff.1 h
    refine adops.call (by first | trivial | rfl) rfl rfl rfl (fun _ h => h) [] [] (hc_linealref05_quiet s set0 hv4) rfl (by (simp only [go_sem, hb1]) <;> (with_reducible and_intros) <;> first | assumption | rfl | omega | (unfold maxLen; omega)) (by (simp only [go_sem, hb1]) <;> (with_reducible and_intros) <;> first | assumption | rfl | omega | (unfold maxLen; omega)) rfl ?_
    refine adops_cut 1 (fun K' hK5 => ?_)
    try dsimp only [List.drop_succ_cons, List.drop_zero, List.take_succ_cons, List.take_zero]
    simp only [go_sem, hb1]
    repeat with_reducible refine zN ?_
    refine hK5 _ ?_
    as_aux_lemma =>
     obtain ⟨v0_3, hv6, h⟩ := Option.bind_eq_some_iff.1 h
     refine adops.call (by first | trivial | rfl) rfl rfl rfl (fun _ h => h) [] [] (hc_linealref05_step s v0_2 label hv6) rfl (by (simp only [go_sem, hb1]) <;> (with_reducible and_intros) <;> first | assumption | rfl | omega | (unfold maxLen; omega)) (by (simp only [go_sem, hb1]) <;> (with_reducible and_intros) <;> first | assumption | rfl | omega | (unfold maxLen; omega)) rfl ?_
     obtain ⟨v0_4, hv7, h⟩ := Option.bind_eq_some_iff.1 h
     refine adops.call (by first | trivial | rfl) rfl rfl rfl (fun _ h => h) [] [] (hc_linealref05_quiet s v0_3 hv7) rfl (by (simp only [go_sem, hb1]) <;> (with_reducible and_intros) <;> first | assumption | rfl | omega | (unfold maxLen; omega)) (by (simp only [go_sem, hb1]) <;> (with_reducible and_intros) <;> first | assumption | rfl | omega | (unfold maxLen; omega)) rfl ?_
     refine adops_cut 1 (fun K' hK8 => ?_)
     try dsimp only [List.drop_succ_cons, List.drop_zero, List.take_succ_cons, List.take_zero]
     simp only [go_sem, hb1]
     repeat with_reducible refine zN ?_
     refine hK8 _ ?_
     refine adops_nil ?_
     refine athen_n ?_
     refine zV [(6, .int .i64 v0_4)] [] gt ?_
     as_aux_lemma =>
      refine AW.ret ?_
      obtain rfl := Option.some.inj h
      exact zR [] [] []

theorem hc_refine_hide (steps : List (Int × Int × Int)) (label : Int) {r : (List (Int × Int × Int))} (h : refine_hide steps label = some r) : HC Try.prog 96 [] [.sl Y0 steps, .int .i64 label] [(2000, .arr 66 Y0 r)] (.own 2000) := by
 unfold refine_hide at h
 refine zH Try.func96 [.tmp 4] 29 ?_
 refine zo ?_
 refine zB [(0, .sl Y0 steps), (1, .int .i64 label)] [] ?_
 refine zo ?_
 refine zB [(0, .sl Y0 steps), (1, .int .i64 label), (5, .cv (.slice none 0 0))] [] ?_
 refine AW.have1 (fun b2_2 : (List (Int × Int × Int)) => refine_hide_k1 b2_2 = some r) (fun b2_2 => ⟨fr [(5, .own 26)], hpGet [(26, .arr 66 Y0 b2_2)], gt⟩) (fun b2_2 h => ?_) (fun hk_refine_hide_k1 => ?_)
 ·as_aux_lemma =>
   unfold refine_hide_k1 at h
   refine zo ?_
   refine zB [(4, .own 26)] [(26, .arr 66 Y0 b2_2)] ?_
   refine AW.ret ?_
   obtain rfl := Option.some.inj h
   exact zR [] [] [(2000, 26)]
 ·refine AW.seq ?_
  refine zo ?_
  refine zB [(1, .int .i64 label), (5, .cv (.slice none 0 0)), (8, .sl Y0 steps), (9, .int .i64 (steps.length : Int)), (10, .int .i64 0)] [] ?_
  refine AW.block ?_
  obtain ⟨rv5, hw1, ho2⟩ := Option.bind_eq_some_iff.1 h
  refine AW.loopO (refine_hide_b1 steps label) (fun st1 => ⟨fr [(1, .int .i64 label), (5, .own 26), (8, .sl Y0 steps), (9, .int .i64 (steps.length : Int)), (10, .int .i64 st1.2)], hpGet [(26, .arr 66 Y0 st1.1)], gt⟩) ([], 0) hw1 (zL [] [26] []) ?_
  as_aux_lemma =>
   intro st1 x4 h hd3
   unfold refine_hide_b1 at h
   refine zo ?_
   refine zB [(1, .int .i64 label), (5, .own 26), (8, .sl Y0 steps), (9, .int .i64 (steps.length : Int)), (10, .int .i64 st1.2), (11, .bool (decide (st1.2 < (steps.length : Int))))] [(26, .arr 66 Y0 st1.1)] ?_
   refine AW.seq ?_
   refine zQ h (fun hb6 h => ?_) (fun hb6 h => ?_)
   ·refine zk ?_
    refine AW.seq ?_
    refine AW.block ?_
    refine zo ?_
    obtain ⟨c7, h⟩ := ck_some.1 h
    obtain ⟨c8, h⟩ := ck_some.1 h
    refine zB [(1, .int .i64 label), (5, .own 26), (7, .bp 7 0), (8, .sl Y0 steps), (9, .int .i64 (steps.length : Int)), (10, .int .i64 st1.2)] [(7, .box 66 [.int .i64 (steps.getD st1.2.toNat (0, 0, 0)).1, .int .i64 (steps.getD st1.2.toNat (0, 0, 0)).2.1, .int .i64 (steps.getD st1.2.toNat (0, 0, 0)).2.2]), (26, .arr 66 Y0 st1.1)] ?_
    refine AW.have1 (fun b2 : Int => refine_hide_k2 steps st1 b2 = some x4) (fun b2 => ⟨fr [(1, .int .i64 label), (5, .own 26), (7, .bp 7 0), (8, .sl Y0 steps), (9, .int .i64 (steps.length : Int)), (10, .int .i64 st1.2)], hpGet [(7, .box 66 [.int .i64 (steps.getD st1.2.toNat (0, 0, 0)).1, .int .i64 b2, .int .i64 (steps.getD st1.2.toNat (0, 0, 0)).2.2]), (26, .arr 66 Y0 st1.1)], gt⟩) (fun b2 h => ?_) (fun hk_refine_hide_k2 => ?_)
    ·as_aux_lemma =>
      unfold refine_hide_k2 at h
      refine zo ?_
      refine zS 2 [(1, .int .i64 label), (5, .own 26), (7, .bp 7 0), (8, .sl Y0 steps), (9, .int .i64 (steps.length : Int)), (10, .int .i64 st1.2), (19, .own 26), (20, .agg [.int .i64 (steps.getD st1.2.toNat (0, 0, 0)).1, .int .i64 b2, .int .i64 (steps.getD st1.2.toNat (0, 0, 0)).2.2])] [(7, .box 66 [.int .i64 (steps.getD st1.2.toNat (0, 0, 0)).1, .int .i64 b2, .int .i64 (steps.getD st1.2.toNat (0, 0, 0)).2.2]), (26, .arr 66 Y0 st1.1)] ?_
      obtain ⟨v0, hv9, h⟩ := Option.bind_eq_some_iff.1 h
      refine zC [26] [] (hc_slices_Contains st1.1 ((steps.getD st1.2.toNat (0, 0, 0)).1, b2, (steps.getD st1.2.toNat (0, 0, 0)).2.2) hv9) [(1, .int .i64 label), (5, .own 26), (7, .bp 7 0), (8, .sl Y0 steps), (9, .int .i64 (steps.length : Int)), (10, .int .i64 st1.2), (21, .bool v0)] [(7, .box 66 [.int .i64 (steps.getD st1.2.toNat (0, 0, 0)).1, .int .i64 b2, .int .i64 (steps.getD st1.2.toNat (0, 0, 0)).2.2]), (26, .arr 66 Y0 st1.1)] ?_
      refine zB [(1, .int .i64 label), (5, .own 26), (7, .bp 7 0), (8, .sl Y0 steps), (9, .int .i64 (steps.length : Int)), (10, .int .i64 st1.2), (22, .bool (!v0))] [(7, .box 66 [.int .i64 (steps.getD st1.2.toNat (0, 0, 0)).1, .int .i64 b2, .int .i64 (steps.getD st1.2.toNat (0, 0, 0)).2.2]), (26, .arr 66 Y0 st1.1)] ?_
      refine zQ h (fun hb10 h => ?_) (fun hb10 h => ?_)
      ·refine AW.ops ?_
       obtain ⟨c11, h⟩ := ck_some.1 h
       refine zA [(1, .int .i64 label), (5, .own 26), (8, .sl Y0 steps), (9, .int .i64 (steps.length : Int)), (10, .int .i64 st1.2)] [(26, .arr 66 Y0 (st1.1 ++ [((steps.getD st1.2.toNat (0, 0, 0)).1, b2, (steps.getD st1.2.toNat (0, 0, 0)).2.2)]))] ?_
       refine ablock_n ?_
       refine athen_n ?_
       refine AW.ops ?_
       obtain ⟨c12, h⟩ := ck_some.1 h
       refine zA [(1, .int .i64 label), (5, .own 26), (8, .sl Y0 steps), (9, .int .i64 (steps.length : Int)), (10, .int .i64 (st1.2 + 1))] [(26, .arr 66 Y0 (st1.1 ++ [((steps.getD st1.2.toNat (0, 0, 0)).1, b2, (steps.getD st1.2.toNat (0, 0, 0)).2.2)]))] ?_
       obtain rfl := Option.some.inj h
       exact ⟨_, rfl, zL [] [] []⟩
      ·refine zm ?_
       refine athen_n ?_
       refine AW.ops ?_
       obtain ⟨c13, h⟩ := ck_some.1 h
       refine zA [(1, .int .i64 label), (5, .own 26), (8, .sl Y0 steps), (9, .int .i64 (steps.length : Int)), (10, .int .i64 (st1.2 + 1))] [(26, .arr 66 Y0 st1.1)] ?_
       obtain rfl := Option.some.inj h
       exact ⟨_, rfl, zL [] [] []⟩
    ·refine AW.seq ?_
     refine zo ?_
     refine zB [(1, .int .i64 label), (5, .own 26), (7, .bp 7 0), (8, .sl Y0 steps), (9, .int .i64 (steps.length : Int)), (10, .int .i64 st1.2), (17, .bool (decide ((steps.getD st1.2.toNat (0, 0, 0)).2.1 = label)))] [(7, .box 66 [.int .i64 (steps.getD st1.2.toNat (0, 0, 0)).1, .int .i64 (steps.getD st1.2.toNat (0, 0, 0)).2.1, .int .i64 (steps.getD st1.2.toNat (0, 0, 0)).2.2]), (26, .arr 66 Y0 st1.1)] ?_
     refine zQ h (fun hb14 h => ?_) (fun hb14 h => ?_)
     ·refine AW.ops ?_
      refine zB [(1, .int .i64 label), (5, .own 26), (7, .bp 7 0), (8, .sl Y0 steps), (9, .int .i64 (steps.length : Int)), (10, .int .i64 st1.2)] [(7, .box 66 [.int .i64 (steps.getD st1.2.toNat (0, 0, 0)).1, .int .i64 0, .int .i64 (steps.getD st1.2.toNat (0, 0, 0)).2.2]), (26, .arr 66 Y0 st1.1)] ?_
      exact AW.weaken (zL [] [] []) (hk_refine_hide_k2 _ h)
     ·refine zk ?_
      exact AW.weaken (zL [] [] []) (hk_refine_hide_k2 _ h)
   ·refine AW.exit ?_
    refine athen_e ?_
    obtain rfl := Option.some.inj h
    rw [← hd3 _ rfl] at ho2
    have h := ho2
    refine athen_e ?_
    refine ablock_s ?_
    refine athen_n ?_
    exact AW.weaken (zL [] [] []) (hk_refine_hide_k1 _ h)

theorem hc_refine_Hidden (s : Int × (List (Int × Int × Int))) (label : Int) {r : Int × (List (Int × Int × Int)) × Int} (h : refine_Hidden s label = some r) : HC Try.prog 48 [] [.agg [.int .i64 s.1, .sl Y0 s.2], .int .i64 label] [(2000, .arr 66 Y0 r.2.1)] (.tup [.agg [.int .i64 r.1, .own 2000], .int .i64 r.2.2]) := by
 unfold refine_Hidden at h
 refine zH Try.func48 [.cell 4 24, .tmp 5] 21 ?_
 refine zo ?_
 refine zB [(1, .int .i64 label), (2, .bp 2 0), (4, .bp 4 0)] [(2, .box 24 [.int .i64 s.1, .sl Y0 s.2]), (4, .box 24 [.int .i64 0, .cv (.slice none 0 0)])] ?_
 refine AW.seq ?_
 refine zo ?_
 refine zS 1 [(1, .int .i64 label), (2, .bp 2 0), (4, .bp 4 0), (6, .agg [.int .i64 s.1, .sl Y0 s.2])] [(2, .box 24 [.int .i64 s.1, .sl Y0 s.2]), (4, .box 24 [.int .i64 0, .cv (.slice none 0 0)])] ?_
 obtain ⟨v0, hv1, h⟩ := Option.bind_eq_some_iff.1 h
 refine zC [] [] (hc_refine_Valid s hv1) [(1, .int .i64 label), (2, .bp 2 0), (4, .bp 4 0), (7, .bool v0)] [(2, .box 24 [.int .i64 s.1, .sl Y0 s.2]), (4, .box 24 [.int .i64 0, .cv (.slice none 0 0)])] ?_
 refine zB [(1, .int .i64 label), (2, .bp 2 0), (4, .bp 4 0), (8, .bool (!v0))] [(2, .box 24 [.int .i64 s.1, .sl Y0 s.2]), (4, .box 24 [.int .i64 0, .cv (.slice none 0 0)])] ?_
 refine zQ h (fun hb2 h => ?_) (fun hb2 h => ?_)
 ·refine zo ?_
  refine zB [(4, .bp 4 0), (5, .int .i64 50)] [(4, .box 24 [.int .i64 0, .cv (.slice none 0 0)])] ?_
  refine zr ?_
  obtain rfl := Option.some.inj h
  exact zR [] [2000] []
 ·refine zk ?_
  refine AW.seq ?_
  refine zo ?_
  refine zS 1 [(1, .int .i64 label), (2, .bp 2 0), (4, .bp 4 0), (10, .int .i64 label)] [(2, .box 24 [.int .i64 s.1, .sl Y0 s.2]), (4, .box 24 [.int .i64 0, .cv (.slice none 0 0)])] ?_
  obtain ⟨v0_2, hv3, h⟩ := Option.bind_eq_some_iff.1 h
  refine zC [] [] (hc_refine_isSeen label hv3) [(1, .int .i64 label), (2, .bp 2 0), (4, .bp 4 0), (11, .bool v0_2)] [(2, .box 24 [.int .i64 s.1, .sl Y0 s.2]), (4, .box 24 [.int .i64 0, .cv (.slice none 0 0)])] ?_
  refine zB [(1, .int .i64 label), (2, .bp 2 0), (4, .bp 4 0), (12, .bool (!v0_2))] [(2, .box 24 [.int .i64 s.1, .sl Y0 s.2]), (4, .box 24 [.int .i64 0, .cv (.slice none 0 0)])] ?_
  refine zQ h (fun hb4 h => ?_) (fun hb4 h => ?_)
  ·refine zo ?_
   refine zB [(4, .bp 4 0), (5, .int .i64 2)] [(4, .box 24 [.int .i64 0, .cv (.slice none 0 0)])] ?_
   refine zr ?_
   obtain rfl := Option.some.inj h
   exact zR [] [2000] []
  ·refine zk ?_
   refine AW.seq ?_
   refine AW.draw tab_ok mixed_ok [(5, [29000]), (7, [4])] [(0, [2]), (1, [2]), (100007, [])] (by decide) (lex_fast (by kernel_rfl)) ?_
   as_aux_lemma =>
    refine adops_cut 5 (fun K' hK5 => ?_)
    try dsimp only [List.drop_succ_cons, List.drop_zero, List.take_succ_cons, List.take_zero]
    simp only [go_sem, hb2, hb4]
    repeat with_reducible refine zN ?_
    refine hK5 _ ?_
    as_aux_lemma =>
     obtain ⟨v0_3, hv6, h⟩ := Option.bind_eq_some_iff.1 h
     refine adops.call (by first | trivial | rfl) rfl rfl rfl (fun _ h => h) [] [] (hc_refine_hide s.2 label hv6) rfl (by (simp only [go_sem, hb2, hb4]) <;> (with_reducible and_intros) <;> first | assumption | rfl | omega | (unfold maxLen; omega)) (by (simp only [go_sem, hb2, hb4]) <;> (with_reducible and_intros) <;> first | assumption | rfl | omega | (unfold maxLen; omega)) rfl ?_
     refine adops_cut 3 (fun K' hK7 => ?_)
     try dsimp only [List.drop_succ_cons, List.drop_zero, List.take_succ_cons, List.take_zero]
     simp only [go_sem, hb2, hb4]
     repeat with_reducible refine zN ?_
     refine hK7 _ ?_
     refine adops_nil ?_
     refine athen_n ?_
     refine zV [(4, .bp 4 0), (5, .int .i64 0)] [(4, .box 24 [.int .i64 s.1, .own 29000]), (29000, .arr 66 Y0 v0_3)] gt ?_
     as_aux_lemma =>
      refine AW.ret ?_
      obtain rfl := Option.some.inj h
      exact zR [] [] [(2000, 29000)]

end Go.Proofs.Ytifleoceebaooaa
