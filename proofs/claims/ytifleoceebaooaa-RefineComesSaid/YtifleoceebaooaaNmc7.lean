/-
  Made by wip/tool/dc.py out of the print of the program: contracts.
-/
import Derived.Test.YtifleoceebaooaaRfp
import Derived.Test.YtifleoceebaooaaShr
import Derived.Test.YtifleoceebaooaaAvd
import Derived.Test.YtifleoceebaooaaNmc1
import Derived.Test.YtifleoceebaooaaNmc4
import Derived.Test.YtifleoceebaooaaNmc5
import Derived.Test.YtifleoceebaooaaNmc6
namespace Go.Proofs.Ytifleoceebaooaa
open Go.RowKit

set_option linter.unusedSimpArgs false
set_option linter.unusedVariables false
set_option linter.constructorNameAsVariable false

set_option maxRecDepth 100000
set_option maxHeartbeats 2000000

theorem hc_linealref05_Stuck (s : Int × (List (Int × Int × Int))) {r : (List Int) × Int} (h : linealref05_Stuck s = some r) : HC Try.prog 26 [] [.agg [.int .i64 s.1, .sl (.pair (.int .i64) (.pair (.int .i64) (.int .i64))) s.2]] [(2000, .arr 3 (.int .i64) r.1)] (.tup [.own 2000, .int .i64 r.2]) := by
 unfold linealref05_Stuck at h
 refine zH Try.func26 [.tmp 2, .tmp 3] 44 ?_
 refine zo ?_
 refine zB [(1, .bp 1 0)] [(1, .box 24 [.int .i64 s.1, .sl (.pair (.int .i64) (.pair (.int .i64) (.int .i64))) s.2])] ?_
 refine AW.seq ?_
 refine zo ?_
 refine zS 1 [(1, .bp 1 0), (10, .agg [.int .i64 s.1, .sl (.pair (.int .i64) (.pair (.int .i64) (.int .i64))) s.2])] [(1, .box 24 [.int .i64 s.1, .sl (.pair (.int .i64) (.pair (.int .i64) (.int .i64))) s.2])] ?_
 obtain ⟨v0, hv1, h⟩ := Option.bind_eq_some_iff.1 h
 refine zC [] [] (hc_linealref05_Valid s hv1) [(1, .bp 1 0), (11, .bool v0)] [(1, .box 24 [.int .i64 s.1, .sl (.pair (.int .i64) (.pair (.int .i64) (.int .i64))) s.2])] ?_
 refine zB [(1, .bp 1 0), (12, .bool (!v0))] [(1, .box 24 [.int .i64 s.1, .sl (.pair (.int .i64) (.pair (.int .i64) (.int .i64))) s.2])] ?_
 refine zQ h (fun hb2 h => ?_) (fun hb2 h => ?_)
 ·refine zo ?_
  refine zB [(2, .cv (.slice none 0 0)), (3, .int .i64 50)] [] ?_
  refine zr ?_
  obtain rfl := Option.some.inj h
  exact zR [] [2000] []
 ·refine zk ?_
  refine zo ?_
  refine zB [(1, .bp 1 0), (4, .cv (.slice none 0 0))] [(1, .box 24 [.int .i64 s.1, .sl (.pair (.int .i64) (.pair (.int .i64) (.int .i64))) s.2])] ?_
  refine AW.have1 (fun b3_3 : (List Int) => linealref05_Stuck_k1 b3_3 = some r) (fun b3_3 => ⟨fr [(4, .own 41)], hpGet [(41, .arr 3 (.int .i64) b3_3)], gt⟩) (fun b3_3 h => ?_) (fun hk_linealref05_Stuck_k1 => ?_)
  ·as_aux_lemma =>
    unfold linealref05_Stuck_k1 at h
    refine zo ?_
    refine zB [(2, .own 41), (3, .int .i64 0)] [(41, .arr 3 (.int .i64) b3_3)] ?_
    refine AW.ret ?_
    obtain rfl := Option.some.inj h
    exact zR [] [] [(2000, 41)]
  ·refine AW.seq ?_
   refine zo ?_
   refine zS 1 [(1, .bp 1 0), (4, .cv (.slice none 0 0)), (13, .agg [.int .i64 s.1, .sl (.pair (.int .i64) (.pair (.int .i64) (.int .i64))) s.2])] [(1, .box 24 [.int .i64 s.1, .sl (.pair (.int .i64) (.pair (.int .i64) (.int .i64))) s.2])] ?_
   obtain ⟨v0_2, hv3, h⟩ := Option.bind_eq_some_iff.1 h
   refine zC [] [] (hc_linealref05_reached s hv3) [(1, .bp 1 0), (4, .cv (.slice none 0 0)), (14, .int .i64 v0_2)] [(1, .box 24 [.int .i64 s.1, .sl (.pair (.int .i64) (.pair (.int .i64) (.int .i64))) s.2])] ?_
   obtain ⟨v0_3, hv4, h⟩ := Option.bind_eq_some_iff.1 h
   refine zC [] [] (hc_linealref05_list v0_2 hv4) [(1, .bp 1 0), (4, .cv (.slice none 0 0)), (15, .own 25000)] [(1, .box 24 [.int .i64 s.1, .sl (.pair (.int .i64) (.pair (.int .i64) (.int .i64))) s.2]), (25000, .arr 3 (.int .i64) v0_3)] ?_
   refine zB [(1, .bp 1 0), (4, .cv (.slice none 0 0)), (15, .own 25000), (16, .int .i64 (v0_3.length : Int)), (17, .int .i64 0)] [(1, .box 24 [.int .i64 s.1, .sl (.pair (.int .i64) (.pair (.int .i64) (.int .i64))) s.2]), (25000, .arr 3 (.int .i64) v0_3)] ?_
   refine AW.block ?_
   obtain ⟨rv9, hw5, ho6⟩ := Option.bind_eq_some_iff.1 h
   refine AW.loopO (linealref05_Stuck_b1 s v0_3) (fun st1 => ⟨fr [(1, .bp 1 0), (4, .own 41), (15, .own 25000), (16, .int .i64 (v0_3.length : Int)), (17, .int .i64 st1.2)], hpGet [(1, .box 24 [.int .i64 s.1, .sl (.pair (.int .i64) (.pair (.int .i64) (.int .i64))) s.2]), (41, .arr 3 (.int .i64) st1.1), (25000, .arr 3 (.int .i64) v0_3)], gt⟩) ([], 0) hw5 (zL [] [41] []) ?_
   as_aux_lemma =>
    intro st1 x8 h hd7
    unfold linealref05_Stuck_b1 at h
    refine zo ?_
    refine zB [(1, .bp 1 0), (4, .own 41), (15, .own 25000), (16, .int .i64 (v0_3.length : Int)), (17, .int .i64 st1.2), (18, .bool (decide (st1.2 < (v0_3.length : Int))))] [(1, .box 24 [.int .i64 s.1, .sl (.pair (.int .i64) (.pair (.int .i64) (.int .i64))) s.2]), (41, .arr 3 (.int .i64) st1.1), (25000, .arr 3 (.int .i64) v0_3)] ?_
    refine AW.seq ?_
    refine zQ h (fun hb10 h => ?_) (fun hb10 h => ?_)
    ·refine zk ?_
     refine AW.have1 (fun b3_2 : (List Int) => linealref05_Stuck_k2 st1 b3_2 = some x8) (fun b3_2 => ⟨fr [(1, .bp 1 0), (4, .own 41), (15, .own 25000), (16, .int .i64 (v0_3.length : Int)), (17, .int .i64 st1.2)], hpGet [(1, .box 24 [.int .i64 s.1, .sl (.pair (.int .i64) (.pair (.int .i64) (.int .i64))) s.2]), (41, .arr 3 (.int .i64) b3_2), (25000, .arr 3 (.int .i64) v0_3)], gt⟩) (fun b3_2 h => ?_) (fun hk_linealref05_Stuck_k2 => ?_)
     ·as_aux_lemma =>
       unfold linealref05_Stuck_k2 at h
       refine AW.ops ?_
       obtain ⟨c11, h⟩ := ck_some.1 h
       refine zA [(1, .bp 1 0), (4, .own 41), (15, .own 25000), (16, .int .i64 (v0_3.length : Int)), (17, .int .i64 (st1.2 + 1))] [(1, .box 24 [.int .i64 s.1, .sl (.pair (.int .i64) (.pair (.int .i64) (.int .i64))) s.2]), (41, .arr 3 (.int .i64) b3_2), (25000, .arr 3 (.int .i64) v0_3)] ?_
       obtain rfl := Option.some.inj h
       exact ⟨_, rfl, zL [] [] []⟩
     ·refine AW.seq ?_
      refine AW.block ?_
      refine zo ?_
      obtain ⟨c12, h⟩ := ck_some.1 h
      obtain ⟨c13, h⟩ := ck_some.1 h
      refine zB [(1, .bp 1 0), (4, .own 41), (6, .int .i64 (v0_3.getD st1.2.toNat 0)), (15, .own 25000), (16, .int .i64 (v0_3.length : Int)), (17, .int .i64 st1.2)] [(1, .box 24 [.int .i64 s.1, .sl (.pair (.int .i64) (.pair (.int .i64) (.int .i64))) s.2]), (41, .arr 3 (.int .i64) st1.1), (25000, .arr 3 (.int .i64) v0_3)] ?_
      refine zo ?_
      refine zB [(1, .bp 1 0), (4, .own 41), (6, .int .i64 (v0_3.getD st1.2.toNat 0)), (7, .bool false), (15, .own 25000), (16, .int .i64 (v0_3.length : Int)), (17, .int .i64 st1.2)] [(1, .box 24 [.int .i64 s.1, .sl (.pair (.int .i64) (.pair (.int .i64) (.int .i64))) s.2]), (41, .arr 3 (.int .i64) st1.1), (25000, .arr 3 (.int .i64) v0_3)] ?_
      refine AW.have1 (fun b3 : Bool => linealref05_Stuck_k3 v0_3 st1 b3 = some x8) (fun b3 => ⟨fr [(1, .bp 1 0), (4, .own 41), (6, .int .i64 (v0_3.getD st1.2.toNat 0)), (7, .bool b3), (15, .own 25000), (16, .int .i64 (v0_3.length : Int)), (17, .int .i64 st1.2)], hpGet [(1, .box 24 [.int .i64 s.1, .sl (.pair (.int .i64) (.pair (.int .i64) (.int .i64))) s.2]), (41, .arr 3 (.int .i64) st1.1), (25000, .arr 3 (.int .i64) v0_3)], gt⟩) (fun b3 h => ?_) (fun hk_linealref05_Stuck_k3 => ?_)
      ·as_aux_lemma =>
        unfold linealref05_Stuck_k3 at h
        refine zo ?_
        refine zB [(1, .bp 1 0), (4, .own 41), (6, .int .i64 (v0_3.getD st1.2.toNat 0)), (15, .own 25000), (16, .int .i64 (v0_3.length : Int)), (17, .int .i64 st1.2), (37, .bool (!b3))] [(1, .box 24 [.int .i64 s.1, .sl (.pair (.int .i64) (.pair (.int .i64) (.int .i64))) s.2]), (41, .arr 3 (.int .i64) st1.1), (25000, .arr 3 (.int .i64) v0_3)] ?_
        refine zQ h (fun hb14 h => ?_) (fun hb14 h => ?_)
        ·refine AW.ops ?_
         obtain ⟨c15, h⟩ := ck_some.1 h
         refine zA [(1, .bp 1 0), (4, .own 41), (15, .own 25000), (16, .int .i64 (v0_3.length : Int)), (17, .int .i64 st1.2)] [(1, .box 24 [.int .i64 s.1, .sl (.pair (.int .i64) (.pair (.int .i64) (.int .i64))) s.2]), (41, .arr 3 (.int .i64) (st1.1 ++ [(v0_3.getD st1.2.toNat 0)])), (25000, .arr 3 (.int .i64) v0_3)] ?_
         refine ablock_n ?_
         refine athen_n ?_
         exact AW.weaken (zL [] [] []) (hk_linealref05_Stuck_k2 _ h)
        ·refine zm ?_
         refine athen_n ?_
         exact AW.weaken (zL [] [] []) (hk_linealref05_Stuck_k2 _ h)
      ·refine AW.seq ?_
       refine zo ?_
       refine zB [(1, .bp 1 0), (4, .own 41), (6, .int .i64 (v0_3.getD st1.2.toNat 0)), (7, .bool false), (15, .own 25000), (16, .int .i64 (v0_3.length : Int)), (17, .int .i64 st1.2), (22, .sl (.pair (.int .i64) (.pair (.int .i64) (.int .i64))) s.2), (23, .int .i64 (s.2.length : Int)), (24, .int .i64 0)] [(1, .box 24 [.int .i64 s.1, .sl (.pair (.int .i64) (.pair (.int .i64) (.int .i64))) s.2]), (41, .arr 3 (.int .i64) st1.1), (25000, .arr 3 (.int .i64) v0_3)] ?_
       refine AW.block ?_
       obtain ⟨rv20, hw16, ho17⟩ := Option.bind_eq_some_iff.1 h
       refine AW.loopO (linealref05_Stuck_b2 s v0_3 st1) (fun st2 => ⟨fr [(1, .bp 1 0), (4, .own 41), (6, .int .i64 (v0_3.getD st1.2.toNat 0)), (7, .bool st2.1), (15, .own 25000), (16, .int .i64 (v0_3.length : Int)), (17, .int .i64 st1.2), (22, .sl (.pair (.int .i64) (.pair (.int .i64) (.int .i64))) s.2), (23, .int .i64 (s.2.length : Int)), (24, .int .i64 st2.2)], hpGet [(1, .box 24 [.int .i64 s.1, .sl (.pair (.int .i64) (.pair (.int .i64) (.int .i64))) s.2]), (41, .arr 3 (.int .i64) st1.1), (25000, .arr 3 (.int .i64) v0_3)], gt⟩) (false, 0) hw16 (zL [] [] []) ?_
       as_aux_lemma =>
        intro st2 x19 h hd18
        unfold linealref05_Stuck_b2 at h
        refine zo ?_
        refine zB [(1, .bp 1 0), (4, .own 41), (6, .int .i64 (v0_3.getD st1.2.toNat 0)), (7, .bool st2.1), (15, .own 25000), (16, .int .i64 (v0_3.length : Int)), (17, .int .i64 st1.2), (22, .sl (.pair (.int .i64) (.pair (.int .i64) (.int .i64))) s.2), (23, .int .i64 (s.2.length : Int)), (24, .int .i64 st2.2), (25, .bool (decide (st2.2 < (s.2.length : Int))))] [(1, .box 24 [.int .i64 s.1, .sl (.pair (.int .i64) (.pair (.int .i64) (.int .i64))) s.2]), (41, .arr 3 (.int .i64) st1.1), (25000, .arr 3 (.int .i64) v0_3)] ?_
        refine AW.seq ?_
        refine zQ h (fun hb21 h => ?_) (fun hb21 h => ?_)
        ·refine zk ?_
         refine AW.seq ?_
         refine AW.block ?_
         refine zo ?_
         obtain ⟨c22, h⟩ := ck_some.1 h
         obtain ⟨c23, h⟩ := ck_some.1 h
         refine zB [(1, .bp 1 0), (4, .own 41), (6, .int .i64 (v0_3.getD st1.2.toNat 0)), (7, .bool st2.1), (9, .bp 9 0), (15, .own 25000), (16, .int .i64 (v0_3.length : Int)), (17, .int .i64 st1.2), (22, .sl (.pair (.int .i64) (.pair (.int .i64) (.int .i64))) s.2), (23, .int .i64 (s.2.length : Int)), (24, .int .i64 st2.2)] [(1, .box 24 [.int .i64 s.1, .sl (.pair (.int .i64) (.pair (.int .i64) (.int .i64))) s.2]), (9, .box 66 [.int .i64 (s.2.getD st2.2.toNat (0, 0, 0)).1, .int .i64 (s.2.getD st2.2.toNat (0, 0, 0)).2.1, .int .i64 (s.2.getD st2.2.toNat (0, 0, 0)).2.2]), (41, .arr 3 (.int .i64) st1.1), (25000, .arr 3 (.int .i64) v0_3)] ?_
         refine AW.ops ?_
         refine zS 2 [(1, .bp 1 0), (4, .own 41), (6, .int .i64 (v0_3.getD st1.2.toNat 0)), (9, .bp 9 0), (15, .own 25000), (16, .int .i64 (v0_3.length : Int)), (17, .int .i64 st1.2), (22, .sl (.pair (.int .i64) (.pair (.int .i64) (.int .i64))) s.2), (23, .int .i64 (s.2.length : Int)), (24, .int .i64 st2.2), (29, .bool st2.1)] [(1, .box 24 [.int .i64 s.1, .sl (.pair (.int .i64) (.pair (.int .i64) (.int .i64))) s.2]), (9, .box 66 [.int .i64 (s.2.getD st2.2.toNat (0, 0, 0)).1, .int .i64 (s.2.getD st2.2.toNat (0, 0, 0)).2.1, .int .i64 (s.2.getD st2.2.toNat (0, 0, 0)).2.2]), (41, .arr 3 (.int .i64) st1.1), (25000, .arr 3 (.int .i64) v0_3)] ?_
         rcases zI h with ⟨hb24, h⟩ | ⟨hb24, h⟩
         ·refine zS 4 [(1, .bp 1 0), (4, .own 41), (6, .int .i64 (v0_3.getD st1.2.toNat 0)), (15, .own 25000), (16, .int .i64 (v0_3.length : Int)), (17, .int .i64 st1.2), (22, .sl (.pair (.int .i64) (.pair (.int .i64) (.int .i64))) s.2), (23, .int .i64 (s.2.length : Int)), (24, .int .i64 st2.2), (29, .bool true), (33, .cv (undef))] [(1, .box 24 [.int .i64 s.1, .sl (.pair (.int .i64) (.pair (.int .i64) (.int .i64))) s.2]), (41, .arr 3 (.int .i64) st1.1), (25000, .arr 3 (.int .i64) v0_3)] ?_
          refine zA [(1, .bp 1 0), (4, .own 41), (6, .int .i64 (v0_3.getD st1.2.toNat 0)), (7, .bool true), (15, .own 25000), (16, .int .i64 (v0_3.length : Int)), (17, .int .i64 st1.2), (22, .sl (.pair (.int .i64) (.pair (.int .i64) (.int .i64))) s.2), (23, .int .i64 (s.2.length : Int)), (24, .int .i64 st2.2)] [(1, .box 24 [.int .i64 s.1, .sl (.pair (.int .i64) (.pair (.int .i64) (.int .i64))) s.2]), (41, .arr 3 (.int .i64) st1.1), (25000, .arr 3 (.int .i64) v0_3)] ?_
          refine ablock_n ?_
          refine athen_n ?_
          refine AW.ops ?_
          obtain ⟨c25, h⟩ := ck_some.1 h
          refine zA [(1, .bp 1 0), (4, .own 41), (6, .int .i64 (v0_3.getD st1.2.toNat 0)), (7, .bool true), (15, .own 25000), (16, .int .i64 (v0_3.length : Int)), (17, .int .i64 st1.2), (22, .sl (.pair (.int .i64) (.pair (.int .i64) (.int .i64))) s.2), (23, .int .i64 (s.2.length : Int)), (24, .int .i64 (st2.2 + 1))] [(1, .box 24 [.int .i64 s.1, .sl (.pair (.int .i64) (.pair (.int .i64) (.int .i64))) s.2]), (41, .arr 3 (.int .i64) st1.1), (25000, .arr 3 (.int .i64) v0_3)] ?_
          obtain rfl := Option.some.inj h
          exact ⟨_, rfl, zL [] [] []⟩
         ·refine zS 5 [(1, .bp 1 0), (4, .own 41), (6, .int .i64 (v0_3.getD st1.2.toNat 0)), (15, .own 25000), (16, .int .i64 (v0_3.length : Int)), (17, .int .i64 st1.2), (22, .sl (.pair (.int .i64) (.pair (.int .i64) (.int .i64))) s.2), (23, .int .i64 (s.2.length : Int)), (24, .int .i64 st2.2), (34, .bool (decide ((s.2.getD st2.2.toNat (0, 0, 0)).1 = (v0_3.getD st1.2.toNat 0))))] [(1, .box 24 [.int .i64 s.1, .sl (.pair (.int .i64) (.pair (.int .i64) (.int .i64))) s.2]), (41, .arr 3 (.int .i64) st1.1), (25000, .arr 3 (.int .i64) v0_3)] ?_
          refine zA [(1, .bp 1 0), (4, .own 41), (6, .int .i64 (v0_3.getD st1.2.toNat 0)), (7, .bool (decide ((s.2.getD st2.2.toNat (0, 0, 0)).1 = (v0_3.getD st1.2.toNat 0)))), (15, .own 25000), (16, .int .i64 (v0_3.length : Int)), (17, .int .i64 st1.2), (22, .sl (.pair (.int .i64) (.pair (.int .i64) (.int .i64))) s.2), (23, .int .i64 (s.2.length : Int)), (24, .int .i64 st2.2)] [(1, .box 24 [.int .i64 s.1, .sl (.pair (.int .i64) (.pair (.int .i64) (.int .i64))) s.2]), (41, .arr 3 (.int .i64) st1.1), (25000, .arr 3 (.int .i64) v0_3)] ?_
          refine ablock_n ?_
          refine athen_n ?_
          refine AW.ops ?_
          obtain ⟨c26, h⟩ := ck_some.1 h
          refine zA [(1, .bp 1 0), (4, .own 41), (6, .int .i64 (v0_3.getD st1.2.toNat 0)), (7, .bool (decide ((s.2.getD st2.2.toNat (0, 0, 0)).1 = (v0_3.getD st1.2.toNat 0)))), (15, .own 25000), (16, .int .i64 (v0_3.length : Int)), (17, .int .i64 st1.2), (22, .sl (.pair (.int .i64) (.pair (.int .i64) (.int .i64))) s.2), (23, .int .i64 (s.2.length : Int)), (24, .int .i64 (st2.2 + 1))] [(1, .box 24 [.int .i64 s.1, .sl (.pair (.int .i64) (.pair (.int .i64) (.int .i64))) s.2]), (41, .arr 3 (.int .i64) st1.1), (25000, .arr 3 (.int .i64) v0_3)] ?_
          obtain rfl := Option.some.inj h
          exact ⟨_, rfl, zL [] [] []⟩
        ·refine AW.exit ?_
         refine athen_e ?_
         obtain rfl := Option.some.inj h
         rw [← hd18 _ rfl] at ho17
         have h := ho17
         refine athen_e ?_
         refine ablock_s ?_
         refine athen_n ?_
         exact AW.weaken (zL [] [] []) (hk_linealref05_Stuck_k3 _ h)
    ·refine AW.exit ?_
     refine athen_e ?_
     obtain rfl := Option.some.inj h
     rw [← hd7 _ rfl] at ho6
     have h := ho6
     refine athen_e ?_
     refine ablock_s ?_
     refine athen_n ?_
     exact AW.weaken (zL [] [] []) (hk_linealref05_Stuck_k1 _ h)

theorem hc_lineallaw05_RefineComes (s : Int × (List (Int × Int × Int))) (state : Int) (label : Int) {r : Bool} (h : lineallaw05_RefineComes s state label = some r) : HC Try.prog 3 [] [.agg [.int .i64 s.1, .sl (.pair (.int .i64) (.pair (.int .i64) (.int .i64))) s.2], .int .i64 state, .int .i64 label] [] (.bool r) := by
 unfold lineallaw05_RefineComes at h
 refine zH Try.func3 [.tmp 6] 84 ?_
 refine zo ?_
 refine zB [(1, .int .i64 state), (2, .int .i64 label), (3, .bp 3 0)] [(3, .box 24 [.int .i64 s.1, .sl (.pair (.int .i64) (.pair (.int .i64) (.int .i64))) s.2])] ?_
 refine AW.seq ?_
 refine zo ?_
 refine zS 1 [(1, .int .i64 state), (2, .int .i64 label), (3, .bp 3 0), (11, .agg [.int .i64 s.1, .sl (.pair (.int .i64) (.pair (.int .i64) (.int .i64))) s.2])] [(3, .box 24 [.int .i64 s.1, .sl (.pair (.int .i64) (.pair (.int .i64) (.int .i64))) s.2])] ?_
 obtain ⟨v0, hv1, h⟩ := Option.bind_eq_some_iff.1 h
 refine zC [] [] (hc_lineallaw05_Long s hv1) [(1, .int .i64 state), (2, .int .i64 label), (3, .bp 3 0), (12, .bool (decide (100 < (s.2.length : Int))))] [(3, .box 24 [.int .i64 s.1, .sl (.pair (.int .i64) (.pair (.int .i64) (.int .i64))) s.2])] ?_
 refine zB [(1, .int .i64 state), (2, .int .i64 label), (3, .bp 3 0), (12, .bool (decide (100 < (s.2.length : Int))))] [(3, .box 24 [.int .i64 s.1, .sl (.pair (.int .i64) (.pair (.int .i64) (.int .i64))) s.2])] ?_
 refine zQ h (fun hb2 h => ?_) (fun hb2 h => ?_)
 ·refine zo ?_
  obtain ⟨v0_2, hv3, h⟩ := Option.bind_eq_some_iff.1 h
  refine zC [] [] (hc_lineallaw05_Awake hv3) [(13, .bool v0_2)] [] ?_
  refine zB [(6, .bool v0_2)] [] ?_
  refine zr ?_
  obtain rfl := Option.some.inj h
  exact zR [] [] []
 ·refine zk ?_
  refine zo ?_
  refine zS 3 [(1, .int .i64 state), (2, .int .i64 label), (3, .bp 3 0), (15, .agg [.int .i64 s.1, .sl (.pair (.int .i64) (.pair (.int .i64) (.int .i64))) s.2]), (16, .int .i64 state), (17, .int .i64 label)] [(3, .box 24 [.int .i64 s.1, .sl (.pair (.int .i64) (.pair (.int .i64) (.int .i64))) s.2])] ?_
  obtain ⟨v0_3, hv4, h⟩ := Option.bind_eq_some_iff.1 h
  refine zC [] [] (hc_refine_Comes s state label hv4) [(1, .int .i64 state), (2, .int .i64 label), (3, .bp 3 0), (18, .tup [.own 28000, .int .i64 v0_3.2])] [(3, .box 24 [.int .i64 s.1, .sl (.pair (.int .i64) (.pair (.int .i64) (.int .i64))) s.2]), (28000, .arr 3 (.int .i64) v0_3.1)] ?_
  refine zB [(1, .int .i64 state), (2, .int .i64 label), (3, .bp 3 0), (7, .own 28000), (8, .int .i64 v0_3.2)] [(3, .box 24 [.int .i64 s.1, .sl (.pair (.int .i64) (.pair (.int .i64) (.int .i64))) s.2]), (28000, .arr 3 (.int .i64) v0_3.1)] ?_
  refine zo ?_
  refine zS 3 [(3, .bp 3 0), (7, .own 28000), (8, .int .i64 v0_3.2), (22, .agg [.int .i64 s.1, .sl (.pair (.int .i64) (.pair (.int .i64) (.int .i64))) s.2]), (23, .int .i64 state), (24, .int .i64 label)] [(3, .box 24 [.int .i64 s.1, .sl (.pair (.int .i64) (.pair (.int .i64) (.int .i64))) s.2]), (28000, .arr 3 (.int .i64) v0_3.1)] ?_
  obtain ⟨v0_4, hv5, h⟩ := Option.bind_eq_some_iff.1 h
  refine zC [] [] (hc_linealref05_Comes s state label hv5) [(3, .bp 3 0), (7, .own 28000), (8, .int .i64 v0_3.2), (25, .tup [.own 35000, .int .i64 v0_4.2])] [(3, .box 24 [.int .i64 s.1, .sl (.pair (.int .i64) (.pair (.int .i64) (.int .i64))) s.2]), (28000, .arr 3 (.int .i64) v0_3.1), (35000, .arr 3 (.int .i64) v0_4.1)] ?_
  refine zB [(3, .bp 3 0), (7, .own 28000), (8, .int .i64 v0_3.2), (9, .own 35000), (10, .int .i64 v0_4.2)] [(3, .box 24 [.int .i64 s.1, .sl (.pair (.int .i64) (.pair (.int .i64) (.int .i64))) s.2]), (28000, .arr 3 (.int .i64) v0_3.1), (35000, .arr 3 (.int .i64) v0_4.1)] ?_
  refine AW.seq ?_
  refine AW.seq ?_
  refine AW.draw tab_ok mixed_ok [] [] (by decide) (lex_fast (by kernel_rfl)) ?_
  as_aux_lemma =>
   refine adops_cut 1 (fun K' hK6 => ?_)
   try dsimp only [List.drop_succ_cons, List.drop_zero, List.take_succ_cons, List.take_zero]
   simp only [go_sem, hb2]
   repeat with_reducible refine zN ?_
   refine hK6 _ ?_
   as_aux_lemma =>
    obtain ⟨v0_5, hv7, h⟩ := Option.bind_eq_some_iff.1 h
    refine adops.call (by first | trivial | rfl) rfl rfl rfl (fun _ h => h) [] [] (hc_refine_Valid s hv7) rfl (by (simp only [go_sem, hb2]) <;> (with_reducible and_intros) <;> first | assumption | rfl | omega | (unfold maxLen; omega)) (by (simp only [go_sem, hb2]) <;> (with_reducible and_intros) <;> first | assumption | rfl | omega | (unfold maxLen; omega)) rfl ?_
    refine adops_cut 1 (fun K' hK8 => ?_)
    try dsimp only [List.drop_succ_cons, List.drop_zero, List.take_succ_cons, List.take_zero]
    simp only [go_sem, hb2]
    repeat with_reducible refine zN ?_
    refine hK8 _ ?_
    as_aux_lemma =>
     obtain ⟨v0_6, hv9, h⟩ := Option.bind_eq_some_iff.1 h
     refine adops.call (by first | trivial | rfl) rfl rfl rfl (fun _ h => h) [] [] (hc_linealref05_Valid s hv9) rfl (by (simp only [go_sem, hb2]) <;> (with_reducible and_intros) <;> first | assumption | rfl | omega | (unfold maxLen; omega)) (by (simp only [go_sem, hb2]) <;> (with_reducible and_intros) <;> first | assumption | rfl | omega | (unfold maxLen; omega)) rfl ?_
     refine adops_cut 2 (fun K' hK10 => ?_)
     try dsimp only [List.drop_succ_cons, List.drop_zero, List.take_succ_cons, List.take_zero]
     simp only [go_sem, hb2]
     repeat with_reducible refine zN ?_
     refine hK10 _ ?_
     as_aux_lemma =>
      rcases zI h with ⟨hb11, h⟩ | ⟨hb11, h⟩
      ·simp only [hb11]
       as_aux_lemma =>
        refine adops_cut 4 (fun K' hK12 => ?_)
        try dsimp only [List.drop_succ_cons, List.drop_zero, List.take_succ_cons, List.take_zero]
        simp only [go_sem, hb2, hb11]
        repeat with_reducible refine zN ?_
        refine hK12 _ ?_
        as_aux_lemma =>
         refine adops_cut 6 (fun K' hK13 => ?_)
         try dsimp only [List.drop_succ_cons, List.drop_zero, List.take_succ_cons, List.take_zero]
         simp only [go_sem, hb2, hb11]
         repeat with_reducible refine zN ?_
         refine hK13 _ ?_
         refine adops_nil ?_
         refine athen_n ?_
         refine zV [(3, .bp 3 0), (43, .bool true)] [(3, .box 24 [.int .i64 s.1, .sl (.pair (.int .i64) (.pair (.int .i64) (.int .i64))) s.2])] gt ?_
         as_aux_lemma =>
          refine AW.cond (b := true) rfl (fun _ => ?_) (fun hb14 => by cases hb14)
          refine zo ?_
          refine zB [(6, .bool false)] [] ?_
          refine zr ?_
          obtain rfl := Option.some.inj h
          exact zR [] [] []
      ·simp only [hb11]
       as_aux_lemma =>
        refine adops_cut 2 (fun K' hK15 => ?_)
        try dsimp only [List.drop_succ_cons, List.drop_zero, List.take_succ_cons, List.take_zero]
        simp only [go_sem, hb2, hb11]
        repeat with_reducible refine zN ?_
        refine hK15 _ ?_
        as_aux_lemma =>
         obtain ⟨v0_7, hv16, h⟩ := Option.bind_eq_some_iff.1 h
         refine adops.call (by first | trivial | rfl) rfl rfl rfl (fun _ h => ⟨fun _ => h, fun hn => absurd rfl hn⟩) [28000, 35000] [] (hc_linealref05_SameInts v0_3.1 v0_4.1 hv16) rfl (by (simp only [go_sem, hb2, hb11]) <;> (with_reducible and_intros) <;> first | assumption | rfl | omega | (unfold maxLen; omega)) (by (simp only [go_sem, hb2, hb11]) <;> (with_reducible and_intros) <;> first | assumption | rfl | omega | (unfold maxLen; omega)) rfl ?_
         refine adops_cut 3 (fun K' hK17 => ?_)
         try dsimp only [List.drop_succ_cons, List.drop_zero, List.take_succ_cons, List.take_zero]
         simp only [go_sem, hb2, hb11]
         repeat with_reducible refine zN ?_
         refine hK17 _ ?_
         as_aux_lemma =>
          rcases zI h with ⟨hb18, h⟩ | ⟨hb18, h⟩
          ·simp only [hb18]
           as_aux_lemma =>
            refine adops_cut 4 (fun K' hK19 => ?_)
            try dsimp only [List.drop_succ_cons, List.drop_zero, List.take_succ_cons, List.take_zero]
            simp only [go_sem, hb2, hb11, hb18]
            repeat with_reducible refine zN ?_
            refine hK19 _ ?_
            refine adops_nil ?_
            refine athen_n ?_
            refine zV [(3, .bp 3 0), (43, .bool true)] [(3, .box 24 [.int .i64 s.1, .sl (.pair (.int .i64) (.pair (.int .i64) (.int .i64))) s.2])] gt ?_
            as_aux_lemma =>
             refine AW.cond (b := true) rfl (fun _ => ?_) (fun hb20 => by cases hb20)
             refine zo ?_
             refine zB [(6, .bool false)] [] ?_
             refine zr ?_
             obtain rfl := Option.some.inj h
             exact zR [] [] []
          ·simp only [hb18]
           as_aux_lemma =>
            refine adops_cut 4 (fun K' hK21 => ?_)
            try dsimp only [List.drop_succ_cons, List.drop_zero, List.take_succ_cons, List.take_zero]
            simp only [go_sem, hb2, hb11, hb18]
            repeat with_reducible refine zN ?_
            refine hK21 _ ?_
            refine adops_nil ?_
            refine athen_n ?_
            refine zV [(3, .bp 3 0), (43, .bool (!(decide (v0_3.2 = v0_4.2))))] [(3, .box 24 [.int .i64 s.1, .sl (.pair (.int .i64) (.pair (.int .i64) (.int .i64))) s.2])] gt ?_
            as_aux_lemma =>
             refine zQ h (fun hb22 h => ?_) (fun hb22 h => ?_)
             ·refine zo ?_
              refine zB [(6, .bool false)] [] ?_
              refine zr ?_
              obtain rfl := Option.some.inj h
              exact zR [] [] []
             ·refine zk ?_
              refine zo ?_
              refine zS 1 [(3, .bp 3 0), (45, .agg [.int .i64 s.1, .sl (.pair (.int .i64) (.pair (.int .i64) (.int .i64))) s.2])] [(3, .box 24 [.int .i64 s.1, .sl (.pair (.int .i64) (.pair (.int .i64) (.int .i64))) s.2])] ?_
              obtain ⟨v0_8, hv23, h⟩ := Option.bind_eq_some_iff.1 h
              refine zC [] [] (hc_refine_Reached s hv23) [(3, .bp 3 0), (46, .tup [.own 56000, .int .i64 v0_8.2])] [(3, .box 24 [.int .i64 s.1, .sl (.pair (.int .i64) (.pair (.int .i64) (.int .i64))) s.2]), (56000, .arr 3 (.int .i64) v0_8.1)] ?_
              refine zB [(3, .bp 3 0), (7, .own 56000), (8, .int .i64 v0_8.2)] [(3, .box 24 [.int .i64 s.1, .sl (.pair (.int .i64) (.pair (.int .i64) (.int .i64))) s.2]), (56000, .arr 3 (.int .i64) v0_8.1)] ?_
              refine zo ?_
              refine zS 1 [(3, .bp 3 0), (7, .own 56000), (8, .int .i64 v0_8.2), (50, .agg [.int .i64 s.1, .sl (.pair (.int .i64) (.pair (.int .i64) (.int .i64))) s.2])] [(3, .box 24 [.int .i64 s.1, .sl (.pair (.int .i64) (.pair (.int .i64) (.int .i64))) s.2]), (56000, .arr 3 (.int .i64) v0_8.1)] ?_
              obtain ⟨v0_9, hv24, h⟩ := Option.bind_eq_some_iff.1 h
              refine zC [] [] (hc_linealref05_Reached s hv24) [(3, .bp 3 0), (7, .own 56000), (8, .int .i64 v0_8.2), (51, .tup [.own 61000, .int .i64 v0_9.2])] [(3, .box 24 [.int .i64 s.1, .sl (.pair (.int .i64) (.pair (.int .i64) (.int .i64))) s.2]), (56000, .arr 3 (.int .i64) v0_8.1), (61000, .arr 3 (.int .i64) v0_9.1)] ?_
              refine zB [(3, .bp 3 0), (7, .own 56000), (8, .int .i64 v0_8.2), (9, .own 61000), (10, .int .i64 v0_9.2)] [(3, .box 24 [.int .i64 s.1, .sl (.pair (.int .i64) (.pair (.int .i64) (.int .i64))) s.2]), (56000, .arr 3 (.int .i64) v0_8.1), (61000, .arr 3 (.int .i64) v0_9.1)] ?_
              refine AW.seq ?_
              refine zo ?_
              refine zS 2 [(3, .bp 3 0), (8, .int .i64 v0_8.2), (10, .int .i64 v0_9.2), (54, .own 56000), (55, .own 61000)] [(3, .box 24 [.int .i64 s.1, .sl (.pair (.int .i64) (.pair (.int .i64) (.int .i64))) s.2]), (56000, .arr 3 (.int .i64) v0_8.1), (61000, .arr 3 (.int .i64) v0_9.1)] ?_
              obtain ⟨v0_10, hv25, h⟩ := Option.bind_eq_some_iff.1 h
              refine zC [56000, 61000] [] (hc_linealref05_SameInts v0_8.1 v0_9.1 hv25) [(3, .bp 3 0), (8, .int .i64 v0_8.2), (10, .int .i64 v0_9.2), (56, .bool v0_10)] [(3, .box 24 [.int .i64 s.1, .sl (.pair (.int .i64) (.pair (.int .i64) (.int .i64))) s.2])] ?_
              refine zS 2 [(3, .bp 3 0), (8, .int .i64 v0_8.2), (10, .int .i64 v0_9.2), (58, .bool (!v0_10))] [(3, .box 24 [.int .i64 s.1, .sl (.pair (.int .i64) (.pair (.int .i64) (.int .i64))) s.2])] ?_
              rcases zI h with ⟨hb26, h⟩ | ⟨hb26, h⟩
              ·refine zB [(3, .bp 3 0), (62, .bool true)] [(3, .box 24 [.int .i64 s.1, .sl (.pair (.int .i64) (.pair (.int .i64) (.int .i64))) s.2])] ?_
               refine AW.cond (b := true) rfl (fun _ => ?_) (fun hb27 => by cases hb27)
               refine zo ?_
               refine zB [(6, .bool false)] [] ?_
               refine zr ?_
               obtain rfl := Option.some.inj h
               exact zR [] [] []
              ·refine zB [(3, .bp 3 0), (62, .bool (!(decide (v0_8.2 = v0_9.2))))] [(3, .box 24 [.int .i64 s.1, .sl (.pair (.int .i64) (.pair (.int .i64) (.int .i64))) s.2])] ?_
               refine zQ h (fun hb28 h => ?_) (fun hb28 h => ?_)
               ·refine zo ?_
                refine zB [(6, .bool false)] [] ?_
                refine zr ?_
                obtain rfl := Option.some.inj h
                exact zR [] [] []
               ·refine zk ?_
                refine zo ?_
                refine zS 1 [(3, .bp 3 0), (64, .agg [.int .i64 s.1, .sl (.pair (.int .i64) (.pair (.int .i64) (.int .i64))) s.2])] [(3, .box 24 [.int .i64 s.1, .sl (.pair (.int .i64) (.pair (.int .i64) (.int .i64))) s.2])] ?_
                obtain ⟨v0_11, hv29, h⟩ := Option.bind_eq_some_iff.1 h
                refine zC [] [] (hc_refine_Stuck s hv29) [(3, .bp 3 0), (65, .tup [.own 75000, .int .i64 v0_11.2])] [(3, .box 24 [.int .i64 s.1, .sl (.pair (.int .i64) (.pair (.int .i64) (.int .i64))) s.2]), (75000, .arr 3 (.int .i64) v0_11.1)] ?_
                refine zB [(3, .bp 3 0), (7, .own 75000), (8, .int .i64 v0_11.2)] [(3, .box 24 [.int .i64 s.1, .sl (.pair (.int .i64) (.pair (.int .i64) (.int .i64))) s.2]), (75000, .arr 3 (.int .i64) v0_11.1)] ?_
                refine zo ?_
                refine zS 1 [(7, .own 75000), (8, .int .i64 v0_11.2), (69, .agg [.int .i64 s.1, .sl (.pair (.int .i64) (.pair (.int .i64) (.int .i64))) s.2])] [(75000, .arr 3 (.int .i64) v0_11.1)] ?_
                obtain ⟨v0_12, hv30, h⟩ := Option.bind_eq_some_iff.1 h
                refine zC [] [] (hc_linealref05_Stuck s hv30) [(7, .own 75000), (8, .int .i64 v0_11.2), (70, .tup [.own 80000, .int .i64 v0_12.2])] [(75000, .arr 3 (.int .i64) v0_11.1), (80000, .arr 3 (.int .i64) v0_12.1)] ?_
                refine zB [(7, .own 75000), (8, .int .i64 v0_11.2), (9, .own 80000), (10, .int .i64 v0_12.2)] [(75000, .arr 3 (.int .i64) v0_11.1), (80000, .arr 3 (.int .i64) v0_12.1)] ?_
                refine zo ?_
                refine zS 2 [(8, .int .i64 v0_11.2), (10, .int .i64 v0_12.2), (73, .own 75000), (74, .own 80000)] [(75000, .arr 3 (.int .i64) v0_11.1), (80000, .arr 3 (.int .i64) v0_12.1)] ?_
                obtain ⟨v0_13, hv31, h⟩ := Option.bind_eq_some_iff.1 h
                refine zC [75000, 80000] [] (hc_linealref05_SameInts v0_11.1 v0_12.1 hv31) [(8, .int .i64 v0_11.2), (10, .int .i64 v0_12.2), (75, .bool v0_13)] [] ?_
                refine zS 1 [(8, .int .i64 v0_11.2), (10, .int .i64 v0_12.2), (76, .bool v0_13)] [] ?_
                rcases zI h with ⟨hb32, h⟩ | ⟨hb32, h⟩
                ·refine zS 5 [(81, .bool (decide (v0_11.2 = v0_12.2)))] [] ?_
                 rcases zI h with ⟨hb33, h⟩ | ⟨hb33, h⟩
                 ·refine zT [(81, .bool true)] [] gt ?_
                  obtain ⟨v0_14, hv34, h⟩ := Option.bind_eq_some_iff.1 h
                  refine zG [] [] (hc_lineallaw05_Awake hv34) [(81, .bool true), (82, .bool v0_14)] [] ?_
                  refine zB [(6, .bool v0_14)] [] ?_
                  refine AW.ret ?_
                  obtain rfl := Option.some.inj h
                  exact zR [] [] []
                 ·refine zB [(6, .bool false)] [] ?_
                  refine AW.ret ?_
                  obtain rfl := Option.some.inj h
                  exact zR [] [] []
                ·refine zS 5 [(81, .bool false)] [] ?_
                 refine zB [(6, .bool false)] [] ?_
                 refine AW.ret ?_
                 obtain rfl := Option.some.inj h
                 exact zR [] [] []

end Go.Proofs.Ytifleoceebaooaa
