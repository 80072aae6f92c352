/-
  Made by wip/tool/dc.py out of the print of the program: contracts.
-/
import Derived.Test.YtcckpmeepcoafaaDoorHzp
import Derived.Test.YtcckpmeepcoafaaDoorShz
import Derived.Test.YtcckpmeepcoafaaDoorHec7
import Derived.Test.YtcckpmeepcoafaaDoorHec9
namespace Go.Proofs.YtcckpmeepcoafaaDoor
open Go.RowKit

set_option linter.unusedSimpArgs false
set_option linter.unusedVariables false
set_option linter.constructorNameAsVariable false

set_option maxRecDepth 100000
set_option maxHeartbeats 40000000

theorem hc_lineallaw06_HazardPlays (threads : Int) (size : Int) (deeds : List (Int × Int × Int × Int)) {r : Bool} (h : lineallaw06_HazardPlays threads size deeds = some r) : HC Tryd.prog 5 [] [.int .i64 threads, .int .i64 size, .sl (.pair (.int .i64) (.pair (.int .i64) (.pair (.int .i64) (.int .i64)))) deeds] [] (.bool r) := by
 unfold lineallaw06_HazardPlays at h
 refine zH Tryd.func5 [.tmp 6] 90 ?_
 refine zo ?_
 refine zB [(0, .int .i64 threads), (1, .int .i64 size), (2, .sl (.pair (.int .i64) (.pair (.int .i64) (.pair (.int .i64) (.int .i64)))) deeds)] [] ?_
 refine AW.seq ?_
 refine zo ?_
 refine zB [(0, .int .i64 threads), (1, .int .i64 size), (2, .sl (.pair (.int .i64) (.pair (.int .i64) (.pair (.int .i64) (.int .i64)))) deeds), (16, .bool (decide (1000 < (deeds.length : Int))))] [] ?_
 refine zQ h (fun hb1 h => ?_) (fun hb1 h => ?_)
 ·refine zo ?_
  obtain ⟨v0, hv2, h⟩ := Option.bind_eq_some_iff.1 h
  refine zC [] [] (hc_lineallaw06_Sane hv2) [(17, .bool v0)] [] ?_
  refine zB [(6, .bool v0)] [] ?_
  refine zr ?_
  obtain rfl := Option.some.inj h
  exact zR [] [] []
 ·refine zk ?_
  refine zo ?_
  refine zS 3 [(0, .int .i64 threads), (1, .int .i64 size), (2, .sl (.pair (.int .i64) (.pair (.int .i64) (.pair (.int .i64) (.int .i64)))) deeds), (19, .int .i64 threads), (20, .int .i64 size), (21, .sl (.pair (.int .i64) (.pair (.int .i64) (.pair (.int .i64) (.int .i64)))) deeds)] [] ?_
  obtain ⟨v0_2, hv3, h⟩ := Option.bind_eq_some_iff.1 h
  refine zC [] [] (hc_hazard_Play threads size deeds hv3) [(0, .int .i64 threads), (1, .int .i64 size), (2, .sl (.pair (.int .i64) (.pair (.int .i64) (.pair (.int .i64) (.int .i64)))) deeds), (22, .tup [.own 32000, .int .i64 v0_2.2])] [(32000, .arr 3 (.int .i64) v0_2.1)] ?_
  refine zB [(0, .int .i64 threads), (1, .int .i64 size), (2, .sl (.pair (.int .i64) (.pair (.int .i64) (.pair (.int .i64) (.int .i64)))) deeds), (7, .own 32000), (8, .int .i64 v0_2.2)] [(32000, .arr 3 (.int .i64) v0_2.1)] ?_
  refine AW.seq ?_
  refine zo ?_
  refine zS 2 [(0, .int .i64 threads), (1, .int .i64 size), (2, .sl (.pair (.int .i64) (.pair (.int .i64) (.pair (.int .i64) (.int .i64)))) deeds), (7, .own 32000), (8, .int .i64 v0_2.2), (25, .int .i64 threads), (26, .int .i64 size)] [(32000, .arr 3 (.int .i64) v0_2.1)] ?_
  obtain ⟨v0_3, hv4, h⟩ := Option.bind_eq_some_iff.1 h
  refine zC [] [] (hc_linealref06_IsNew threads size hv4) [(0, .int .i64 threads), (1, .int .i64 size), (2, .sl (.pair (.int .i64) (.pair (.int .i64) (.pair (.int .i64) (.int .i64)))) deeds), (7, .own 32000), (8, .int .i64 v0_2.2), (27, .bool v0_3)] [(32000, .arr 3 (.int .i64) v0_2.1)] ?_
  refine zS 2 [(0, .int .i64 threads), (1, .int .i64 size), (2, .sl (.pair (.int .i64) (.pair (.int .i64) (.pair (.int .i64) (.int .i64)))) deeds), (7, .own 32000), (8, .int .i64 v0_2.2), (29, .bool (!v0_3))] [(32000, .arr 3 (.int .i64) v0_2.1)] ?_
  rcases zI h with ⟨hb5, h⟩ | ⟨hb5, h⟩
  ·refine zB [(0, .int .i64 threads), (1, .int .i64 size), (2, .sl (.pair (.int .i64) (.pair (.int .i64) (.pair (.int .i64) (.int .i64)))) deeds), (7, .own 32000), (8, .int .i64 v0_2.2), (33, .bool true)] [(32000, .arr 3 (.int .i64) v0_2.1)] ?_
   refine AW.cond (b := true) rfl (fun _ => ?_) (fun hb6 => by cases hb6)
   refine zo ?_
   refine zS 3 [(7, .own 32000), (36, .bool (decide (v0_2.2 = 2)))] [(32000, .arr 3 (.int .i64) v0_2.1)] ?_
   rcases zI h with ⟨hb7, h⟩ | ⟨hb7, h⟩
   ·refine zS 5 [(41, .bool (decide ((v0_2.1.length : Int) = 0)))] [] ?_
    rcases zI h with ⟨hb8, h⟩ | ⟨hb8, h⟩
    ·refine zT [(41, .bool true)] [] gt ?_
     obtain ⟨v0_4, hv9, h⟩ := Option.bind_eq_some_iff.1 h
     refine zG [] [] (hc_lineallaw06_Sane hv9) [(41, .bool true), (42, .bool v0_4)] [] ?_
     refine zB [(6, .bool v0_4)] [] ?_
     refine zr ?_
     obtain rfl := Option.some.inj h
     exact zR [] [] []
    ·refine zB [(6, .bool false)] [] ?_
     refine zr ?_
     obtain rfl := Option.some.inj h
     exact zR [] [] []
   ·refine zS 5 [(41, .bool false)] [] ?_
    refine zB [(6, .bool false)] [] ?_
    refine zr ?_
    obtain rfl := Option.some.inj h
    exact zR [] [] []
  ·refine zB [(0, .int .i64 threads), (1, .int .i64 size), (2, .sl (.pair (.int .i64) (.pair (.int .i64) (.pair (.int .i64) (.int .i64)))) deeds), (7, .own 32000), (8, .int .i64 v0_2.2), (33, .bool (decide (100 < (deeds.length : Int))))] [(32000, .arr 3 (.int .i64) v0_2.1)] ?_
   refine zQ h (fun hb10 h => ?_) (fun hb10 h => ?_)
   ·refine zo ?_
    refine zS 3 [(7, .own 32000), (36, .bool (decide (v0_2.2 = 2)))] [(32000, .arr 3 (.int .i64) v0_2.1)] ?_
    rcases zI h with ⟨hb11, h⟩ | ⟨hb11, h⟩
    ·refine zS 5 [(41, .bool (decide ((v0_2.1.length : Int) = 0)))] [] ?_
     rcases zI h with ⟨hb12, h⟩ | ⟨hb12, h⟩
     ·refine zT [(41, .bool true)] [] gt ?_
      obtain ⟨v0_5, hv13, h⟩ := Option.bind_eq_some_iff.1 h
      refine zG [] [] (hc_lineallaw06_Sane hv13) [(41, .bool true), (42, .bool v0_5)] [] ?_
      refine zB [(6, .bool v0_5)] [] ?_
      refine zr ?_
      obtain rfl := Option.some.inj h
      exact zR [] [] []
     ·refine zB [(6, .bool false)] [] ?_
      refine zr ?_
      obtain rfl := Option.some.inj h
      exact zR [] [] []
    ·refine zS 5 [(41, .bool false)] [] ?_
     refine zB [(6, .bool false)] [] ?_
     refine zr ?_
     obtain rfl := Option.some.inj h
     exact zR [] [] []
   ·refine zk ?_
    refine AW.seq ?_
    refine zo ?_
    refine zS 3 [(0, .int .i64 threads), (1, .int .i64 size), (2, .sl (.pair (.int .i64) (.pair (.int .i64) (.pair (.int .i64) (.int .i64)))) deeds), (7, .own 32000), (46, .bool (!(decide (v0_2.2 = 0))))] [(32000, .arr 3 (.int .i64) v0_2.1)] ?_
    rcases zI h with ⟨hb14, h⟩ | ⟨hb14, h⟩
    ·refine zS 4 [(0, .int .i64 threads), (1, .int .i64 size), (2, .sl (.pair (.int .i64) (.pair (.int .i64) (.pair (.int .i64) (.int .i64)))) deeds), (7, .own 32000), (46, .bool true), (48, .cv (undef)), (50, .cv (undef))] [(32000, .arr 3 (.int .i64) v0_2.1)] ?_
     refine zB [(0, .int .i64 threads), (1, .int .i64 size), (2, .sl (.pair (.int .i64) (.pair (.int .i64) (.pair (.int .i64) (.int .i64)))) deeds), (7, .own 32000), (52, .bool true)] [(32000, .arr 3 (.int .i64) v0_2.1)] ?_
     refine AW.cond (b := true) rfl (fun _ => ?_) (fun hb15 => by cases hb15)
     refine zo ?_
     refine zB [(6, .bool false)] [] ?_
     refine zr ?_
     obtain rfl := Option.some.inj h
     exact zR [] [] []
    ·refine zS 5 [(0, .int .i64 threads), (1, .int .i64 size), (2, .sl (.pair (.int .i64) (.pair (.int .i64) (.pair (.int .i64) (.int .i64)))) deeds), (7, .own 32000), (46, .bool false), (51, .bool (!(decide ((v0_2.1.length : Int) = (deeds.length : Int)))))] [(32000, .arr 3 (.int .i64) v0_2.1)] ?_
     refine zB [(0, .int .i64 threads), (1, .int .i64 size), (2, .sl (.pair (.int .i64) (.pair (.int .i64) (.pair (.int .i64) (.int .i64)))) deeds), (7, .own 32000), (52, .bool (!(decide ((v0_2.1.length : Int) = (deeds.length : Int)))))] [(32000, .arr 3 (.int .i64) v0_2.1)] ?_
     refine zQ h (fun hb16 h => ?_) (fun hb16 h => ?_)
     ·refine zo ?_
      refine zB [(6, .bool false)] [] ?_
      refine zr ?_
      obtain rfl := Option.some.inj h
      exact zR [] [] []
     ·refine zk ?_
      refine zo ?_
      refine zS 2 [(2, .sl (.pair (.int .i64) (.pair (.int .i64) (.pair (.int .i64) (.int .i64)))) deeds), (7, .own 32000), (53, .int .i64 threads), (54, .int .i64 size)] [(32000, .arr 3 (.int .i64) v0_2.1)] ?_
      obtain ⟨v0_6, hv17, h⟩ := Option.bind_eq_some_iff.1 h
      refine zC [] [] (hc_linealref06_New threads size hv17) [(2, .sl (.pair (.int .i64) (.pair (.int .i64) (.pair (.int .i64) (.int .i64)))) deeds), (7, .own 32000), (55, .bp 65000 0)] [(32000, .arr 3 (.int .i64) v0_2.1), (65000, .box 77 (.int .i64 threads :: (.int .i64 size :: (cellsX T66 (Ty.dflt T66) ++ (.own 65001 :: (.own 65002 :: [])))))), (65001, .arr 64 (.pair (.int .i64) (.int .i64)) v0_6.1), (65002, .arr 45 (.sl (.int .i64)) v0_6.2)] ?_
      refine zB [(2, .sl (.pair (.int .i64) (.pair (.int .i64) (.pair (.int .i64) (.int .i64)))) deeds), (7, .own 32000), (9, .bp 65000 0)] [(32000, .arr 3 (.int .i64) v0_2.1), (65000, .box 77 (.int .i64 threads :: (.int .i64 size :: (cellsX T66 (Ty.dflt T66) ++ (.own 65001 :: (.own 65002 :: [])))))), (65001, .arr 64 (.pair (.int .i64) (.int .i64)) v0_6.1), (65002, .arr 45 (.sl (.int .i64)) v0_6.2)] ?_
      refine AW.have1 (fun _ : Unit => lineallaw06_HazardPlays_k1 = some r) (fun _ => ⟨fr [], hpGet [], gt⟩) (fun _ h => ?_) (fun hk_lineallaw06_HazardPlays_k1 => ?_)
      ·as_aux_lemma =>
        unfold lineallaw06_HazardPlays_k1 at h
        refine zo ?_
        obtain ⟨v0_8, hv18, h⟩ := Option.bind_eq_some_iff.1 h
        refine zC [] [] (hc_lineallaw06_Sane hv18) [(89, .bool v0_8)] [] ?_
        refine zB [(6, .bool v0_8)] [] ?_
        refine AW.ret ?_
        obtain rfl := Option.some.inj h
        exact zR [] [] []
      ·refine AW.seq ?_
       refine zo ?_
       refine zB [(2, .sl (.pair (.int .i64) (.pair (.int .i64) (.pair (.int .i64) (.int .i64)))) deeds), (7, .own 32000), (9, .bp 65000 0), (10, .int .i64 0)] [(32000, .arr 3 (.int .i64) v0_2.1), (65000, .box 77 (.int .i64 threads :: (.int .i64 size :: (cellsX T66 (Ty.dflt T66) ++ (.own 65001 :: (.own 65002 :: [])))))), (65001, .arr 64 (.pair (.int .i64) (.int .i64)) v0_6.1), (65002, .arr 45 (.sl (.int .i64)) v0_6.2)] ?_
       refine AW.block ?_
       obtain ⟨rv23, hw19, ho20⟩ := Option.bind_eq_some_iff.1 h
       refine AW.loopO (lineallaw06_HazardPlays_b1 threads size deeds v0_2) (fun st1 => ⟨fr [(2, .sl (.pair (.int .i64) (.pair (.int .i64) (.pair (.int .i64) (.int .i64)))) deeds), (7, .own 32000), (9, .bp 65000 0), (10, .int .i64 st1.2.2.2)], hpGet [(32000, .arr 3 (.int .i64) v0_2.1), (65000, .box 77 (.int .i64 threads :: (.int .i64 size :: (cellsX T66 st1.1 ++ (.own 65001 :: (.own 65002 :: [])))))), (65001, .arr 64 (.pair (.int .i64) (.int .i64)) st1.2.1), (65002, .arr 45 (.sl (.int .i64)) st1.2.2.1)], gt⟩) ((Ty.dflt T66), v0_6.1, v0_6.2, 0) hw19 (zL [] [] []) ?_
       as_aux_lemma =>
        intro st1 x22 h hd21
        unfold lineallaw06_HazardPlays_b1 at h
        refine AW.seq ?_
        refine zo ?_
        refine zB [(2, .sl (.pair (.int .i64) (.pair (.int .i64) (.pair (.int .i64) (.int .i64)))) deeds), (7, .own 32000), (9, .bp 65000 0), (10, .int .i64 st1.2.2.2), (59, .bool (decide (st1.2.2.2 < (deeds.length : Int))))] [(32000, .arr 3 (.int .i64) v0_2.1), (65000, .box 77 (.int .i64 threads :: (.int .i64 size :: (cellsX T66 st1.1 ++ (.own 65001 :: (.own 65002 :: [])))))), (65001, .arr 64 (.pair (.int .i64) (.int .i64)) st1.2.1), (65002, .arr 45 (.sl (.int .i64)) st1.2.2.1)] ?_
        refine zQ h (fun hb24 h => ?_) (fun hb24 h => ?_)
        ·refine zk ?_
         refine AW.seq ?_
         refine AW.block ?_
         refine zo ?_
         obtain ⟨c25, h⟩ := ck_some.1 h
         obtain ⟨c26, h⟩ := ck_some.1 h
         refine zS 5 [(2, .sl (.pair (.int .i64) (.pair (.int .i64) (.pair (.int .i64) (.int .i64)))) deeds), (7, .own 32000), (9, .bp 65000 0), (10, .int .i64 st1.2.2.2), (11, .bp 11 0), (65, .agg [.int .i64 (deeds.getD st1.2.2.2.toNat (0, 0, 0, 0)).1, .int .i64 (deeds.getD st1.2.2.2.toNat (0, 0, 0, 0)).2.1, .int .i64 (deeds.getD st1.2.2.2.toNat (0, 0, 0, 0)).2.2.1, .int .i64 (deeds.getD st1.2.2.2.toNat (0, 0, 0, 0)).2.2.2])] [(11, .box 33 [.int .i64 0, .int .i64 0, .int .i64 0, .int .i64 0]), (32000, .arr 3 (.int .i64) v0_2.1), (65000, .box 77 (.int .i64 threads :: (.int .i64 size :: (cellsX T66 st1.1 ++ (.own 65001 :: (.own 65002 :: [])))))), (65001, .arr 64 (.pair (.int .i64) (.int .i64)) st1.2.1), (65002, .arr 45 (.sl (.int .i64)) st1.2.2.1)] ?_
         refine zB [(2, .sl (.pair (.int .i64) (.pair (.int .i64) (.pair (.int .i64) (.int .i64)))) deeds), (7, .own 32000), (9, .bp 65000 0), (10, .int .i64 st1.2.2.2), (11, .bp 11 0)] [(11, .box 33 [.int .i64 (deeds.getD st1.2.2.2.toNat (0, 0, 0, 0)).1, .int .i64 (deeds.getD st1.2.2.2.toNat (0, 0, 0, 0)).2.1, .int .i64 (deeds.getD st1.2.2.2.toNat (0, 0, 0, 0)).2.2.1, .int .i64 (deeds.getD st1.2.2.2.toNat (0, 0, 0, 0)).2.2.2]), (32000, .arr 3 (.int .i64) v0_2.1), (65000, .box 77 (.int .i64 threads :: (.int .i64 size :: (cellsX T66 st1.1 ++ (.own 65001 :: (.own 65002 :: [])))))), (65001, .arr 64 (.pair (.int .i64) (.int .i64)) st1.2.1), (65002, .arr 45 (.sl (.int .i64)) st1.2.2.1)] ?_
         refine zo ?_
         refine zS 5 [(2, .sl (.pair (.int .i64) (.pair (.int .i64) (.pair (.int .i64) (.int .i64)))) deeds), (7, .own 32000), (9, .bp 65000 0), (10, .int .i64 st1.2.2.2), (11, .bp 11 0), (67, .bp 65000 0), (69, .int .i64 (deeds.getD st1.2.2.2.toNat (0, 0, 0, 0)).1), (71, .int .i64 (deeds.getD st1.2.2.2.toNat (0, 0, 0, 0)).2.1)] [(11, .box 33 [.int .i64 (deeds.getD st1.2.2.2.toNat (0, 0, 0, 0)).1, .int .i64 (deeds.getD st1.2.2.2.toNat (0, 0, 0, 0)).2.1, .int .i64 (deeds.getD st1.2.2.2.toNat (0, 0, 0, 0)).2.2.1, .int .i64 (deeds.getD st1.2.2.2.toNat (0, 0, 0, 0)).2.2.2]), (32000, .arr 3 (.int .i64) v0_2.1), (65000, .box 77 (.int .i64 threads :: (.int .i64 size :: (cellsX T66 st1.1 ++ (.own 65001 :: (.own 65002 :: [])))))), (65001, .arr 64 (.pair (.int .i64) (.int .i64)) st1.2.1), (65002, .arr 45 (.sl (.int .i64)) st1.2.2.1)] ?_
         refine zS 4 [(2, .sl (.pair (.int .i64) (.pair (.int .i64) (.pair (.int .i64) (.int .i64)))) deeds), (7, .own 32000), (9, .bp 65000 0), (10, .int .i64 st1.2.2.2), (67, .bp 65000 0), (69, .int .i64 (deeds.getD st1.2.2.2.toNat (0, 0, 0, 0)).1), (71, .int .i64 (deeds.getD st1.2.2.2.toNat (0, 0, 0, 0)).2.1), (73, .int .i64 (deeds.getD st1.2.2.2.toNat (0, 0, 0, 0)).2.2.1), (75, .int .i64 (deeds.getD st1.2.2.2.toNat (0, 0, 0, 0)).2.2.2)] [(32000, .arr 3 (.int .i64) v0_2.1), (65000, .box 77 (.int .i64 threads :: (.int .i64 size :: (cellsX T66 st1.1 ++ (.own 65001 :: (.own 65002 :: [])))))), (65001, .arr 64 (.pair (.int .i64) (.int .i64)) st1.2.1), (65002, .arr 45 (.sl (.int .i64)) st1.2.2.1)] ?_
         obtain ⟨v0_7, hv27, h⟩ := Option.bind_eq_some_iff.1 h
         refine zC [] [(1000, 65000), (1001, 65001), (1002, 65002)] (hc_linealref06_Yard_Do (deeds.getD st1.2.2.2.toNat (0, 0, 0, 0)).1 (deeds.getD st1.2.2.2.toNat (0, 0, 0, 0)).2.1 (deeds.getD st1.2.2.2.toNat (0, 0, 0, 0)).2.2.1 (deeds.getD st1.2.2.2.toNat (0, 0, 0, 0)).2.2.2 threads size st1.1 st1.2.1 st1.2.2.1 hv27) [(2, .sl (.pair (.int .i64) (.pair (.int .i64) (.pair (.int .i64) (.int .i64)))) deeds), (7, .own 32000), (9, .bp 65000 0), (10, .int .i64 st1.2.2.2), (76, .tup [.int .i64 v0_7.1, .int .i64 v0_7.2.1])] [(32000, .arr 3 (.int .i64) v0_2.1), (65000, .box 77 (.int .i64 threads :: (.int .i64 size :: (cellsX T66 v0_7.2.2.1 ++ (.own 65001 :: (.own 65002 :: [])))))), (65001, .arr 64 (.pair (.int .i64) (.int .i64)) v0_7.2.2.2.1), (65002, .arr 45 (.sl (.int .i64)) v0_7.2.2.2.2)] ?_
         refine zB [(2, .sl (.pair (.int .i64) (.pair (.int .i64) (.pair (.int .i64) (.int .i64)))) deeds), (7, .own 32000), (9, .bp 65000 0), (10, .int .i64 st1.2.2.2), (12, .int .i64 v0_7.1), (13, .int .i64 v0_7.2.1)] [(32000, .arr 3 (.int .i64) v0_2.1), (65000, .box 77 (.int .i64 threads :: (.int .i64 size :: (cellsX T66 v0_7.2.2.1 ++ (.own 65001 :: (.own 65002 :: [])))))), (65001, .arr 64 (.pair (.int .i64) (.int .i64)) v0_7.2.2.2.1), (65002, .arr 45 (.sl (.int .i64)) v0_7.2.2.2.2)] ?_
         refine AW.seq ?_
         refine zo ?_
         refine zB [(2, .sl (.pair (.int .i64) (.pair (.int .i64) (.pair (.int .i64) (.int .i64)))) deeds), (7, .own 32000), (9, .bp 65000 0), (10, .int .i64 st1.2.2.2), (12, .int .i64 v0_7.1), (13, .int .i64 v0_7.2.1), (80, .bool (!(decide (v0_7.2.1 = 0))))] [(32000, .arr 3 (.int .i64) v0_2.1), (65000, .box 77 (.int .i64 threads :: (.int .i64 size :: (cellsX T66 v0_7.2.2.1 ++ (.own 65001 :: (.own 65002 :: [])))))), (65001, .arr 64 (.pair (.int .i64) (.int .i64)) v0_7.2.2.2.1), (65002, .arr 45 (.sl (.int .i64)) v0_7.2.2.2.2)] ?_
         refine zQ h (fun hb28 h => ?_) (fun hb28 h => ?_)
         ·refine AW.ops ?_
          obtain ⟨c29, h⟩ := ck_some.1 h
          refine zB [(2, .sl (.pair (.int .i64) (.pair (.int .i64) (.pair (.int .i64) (.int .i64)))) deeds), (7, .own 32000), (9, .bp 65000 0), (10, .int .i64 st1.2.2.2), (12, .int .i64 (-v0_7.2.1))] [(32000, .arr 3 (.int .i64) v0_2.1), (65000, .box 77 (.int .i64 threads :: (.int .i64 size :: (cellsX T66 v0_7.2.2.1 ++ (.own 65001 :: (.own 65002 :: [])))))), (65001, .arr 64 (.pair (.int .i64) (.int .i64)) v0_7.2.2.2.1), (65002, .arr 45 (.sl (.int .i64)) v0_7.2.2.2.2)] ?_
          refine zo ?_
          obtain ⟨c30, h⟩ := ck_some.1 h
          obtain ⟨c31, h⟩ := ck_some.1 h
          refine zS 5 [(2, .sl (.pair (.int .i64) (.pair (.int .i64) (.pair (.int .i64) (.int .i64)))) deeds), (7, .own 32000), (9, .bp 65000 0), (10, .int .i64 st1.2.2.2), (86, .int .i64 (v0_2.1.getD st1.2.2.2.toNat 0)), (87, .int .i64 (-v0_7.2.1))] [(32000, .arr 3 (.int .i64) v0_2.1), (65000, .box 77 (.int .i64 threads :: (.int .i64 size :: (cellsX T66 v0_7.2.2.1 ++ (.own 65001 :: (.own 65002 :: [])))))), (65001, .arr 64 (.pair (.int .i64) (.int .i64)) v0_7.2.2.2.1), (65002, .arr 45 (.sl (.int .i64)) v0_7.2.2.2.2)] ?_
          refine zB [(2, .sl (.pair (.int .i64) (.pair (.int .i64) (.pair (.int .i64) (.int .i64)))) deeds), (7, .own 32000), (9, .bp 65000 0), (10, .int .i64 st1.2.2.2), (88, .bool (!(decide ((v0_2.1.getD st1.2.2.2.toNat 0) = (-v0_7.2.1)))))] [(32000, .arr 3 (.int .i64) v0_2.1), (65000, .box 77 (.int .i64 threads :: (.int .i64 size :: (cellsX T66 v0_7.2.2.1 ++ (.own 65001 :: (.own 65002 :: [])))))), (65001, .arr 64 (.pair (.int .i64) (.int .i64)) v0_7.2.2.2.1), (65002, .arr 45 (.sl (.int .i64)) v0_7.2.2.2.2)] ?_
          refine zQ h (fun hb32 h => ?_) (fun hb32 h => ?_)
          ·refine zo ?_
           refine zB [(6, .bool false)] [] ?_
           refine AW.ret ?_
           refine ablock_r ?_
           refine athen_r ?_
           obtain rfl := Option.some.inj h
           try rw [← hd21 _ rfl] at ho20
           have h := ho20
           try simp only at h
           refine athen_r ?_
           refine ablock_r ?_
           refine athen_r ?_
           obtain rfl := Option.some.inj h
           exact zR [] [] []
          ·refine zm ?_
           refine athen_n ?_
           refine AW.ops ?_
           obtain ⟨c33, h⟩ := ck_some.1 h
           refine zA [(2, .sl (.pair (.int .i64) (.pair (.int .i64) (.pair (.int .i64) (.int .i64)))) deeds), (7, .own 32000), (9, .bp 65000 0), (10, .int .i64 (st1.2.2.2 + 1))] [(32000, .arr 3 (.int .i64) v0_2.1), (65000, .box 77 (.int .i64 threads :: (.int .i64 size :: (cellsX T66 v0_7.2.2.1 ++ (.own 65001 :: (.own 65002 :: [])))))), (65001, .arr 64 (.pair (.int .i64) (.int .i64)) v0_7.2.2.2.1), (65002, .arr 45 (.sl (.int .i64)) v0_7.2.2.2.2)] ?_
           obtain rfl := Option.some.inj h
           exact ⟨_, rfl, zL [] [] []⟩
         ·refine zk ?_
          refine zo ?_
          obtain ⟨c34, h⟩ := ck_some.1 h
          obtain ⟨c35, h⟩ := ck_some.1 h
          refine zS 5 [(2, .sl (.pair (.int .i64) (.pair (.int .i64) (.pair (.int .i64) (.int .i64)))) deeds), (7, .own 32000), (9, .bp 65000 0), (10, .int .i64 st1.2.2.2), (86, .int .i64 (v0_2.1.getD st1.2.2.2.toNat 0)), (87, .int .i64 v0_7.1)] [(32000, .arr 3 (.int .i64) v0_2.1), (65000, .box 77 (.int .i64 threads :: (.int .i64 size :: (cellsX T66 v0_7.2.2.1 ++ (.own 65001 :: (.own 65002 :: [])))))), (65001, .arr 64 (.pair (.int .i64) (.int .i64)) v0_7.2.2.2.1), (65002, .arr 45 (.sl (.int .i64)) v0_7.2.2.2.2)] ?_
          refine zB [(2, .sl (.pair (.int .i64) (.pair (.int .i64) (.pair (.int .i64) (.int .i64)))) deeds), (7, .own 32000), (9, .bp 65000 0), (10, .int .i64 st1.2.2.2), (88, .bool (!(decide ((v0_2.1.getD st1.2.2.2.toNat 0) = v0_7.1))))] [(32000, .arr 3 (.int .i64) v0_2.1), (65000, .box 77 (.int .i64 threads :: (.int .i64 size :: (cellsX T66 v0_7.2.2.1 ++ (.own 65001 :: (.own 65002 :: [])))))), (65001, .arr 64 (.pair (.int .i64) (.int .i64)) v0_7.2.2.2.1), (65002, .arr 45 (.sl (.int .i64)) v0_7.2.2.2.2)] ?_
          refine zQ h (fun hb36 h => ?_) (fun hb36 h => ?_)
          ·refine zo ?_
           refine zB [(6, .bool false)] [] ?_
           refine AW.ret ?_
           refine ablock_r ?_
           refine athen_r ?_
           obtain rfl := Option.some.inj h
           try rw [← hd21 _ rfl] at ho20
           have h := ho20
           try simp only at h
           refine athen_r ?_
           refine ablock_r ?_
           refine athen_r ?_
           obtain rfl := Option.some.inj h
           exact zR [] [] []
          ·refine zm ?_
           refine athen_n ?_
           refine AW.ops ?_
           obtain ⟨c37, h⟩ := ck_some.1 h
           refine zA [(2, .sl (.pair (.int .i64) (.pair (.int .i64) (.pair (.int .i64) (.int .i64)))) deeds), (7, .own 32000), (9, .bp 65000 0), (10, .int .i64 (st1.2.2.2 + 1))] [(32000, .arr 3 (.int .i64) v0_2.1), (65000, .box 77 (.int .i64 threads :: (.int .i64 size :: (cellsX T66 v0_7.2.2.1 ++ (.own 65001 :: (.own 65002 :: [])))))), (65001, .arr 64 (.pair (.int .i64) (.int .i64)) v0_7.2.2.2.1), (65002, .arr 45 (.sl (.int .i64)) v0_7.2.2.2.2)] ?_
           obtain rfl := Option.some.inj h
           exact ⟨_, rfl, zL [] [] []⟩
        ·refine AW.exit ?_
         refine athen_e ?_
         obtain rfl := Option.some.inj h
         try rw [← hd21 _ rfl] at ho20
         have h := ho20
         try simp only at h
         refine athen_e ?_
         refine ablock_s ?_
         refine athen_n ?_
         exact AW.weaken (zL [] [] []) (hk_lineallaw06_HazardPlays_k1 () h)

end Go.Proofs.YtcckpmeepcoafaaDoor
