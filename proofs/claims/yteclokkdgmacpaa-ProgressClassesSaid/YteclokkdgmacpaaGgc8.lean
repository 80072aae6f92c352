/-
  Made by wip/tool/dc.py out of the print of the program: contracts.
-/
import Derived.Test.YteclokkdgmacpaaGrp
import Derived.Test.YteclokkdgmacpaaSh7
import Derived.Test.YteclokkdgmacpaaGgc6
import Derived.Test.YteclokkdgmacpaaGgc7
namespace Go.Proofs.Yteclokkdgmacpaa
open Go.RowKit

set_option linter.unusedSimpArgs false
set_option linter.unusedVariables false
set_option linter.constructorNameAsVariable false

set_option maxRecDepth 100000
set_option maxHeartbeats 2000000

theorem hc_lineallaw07_ProgressClasses (g : Int × (List (Int × Int × Int × Bool))) {r : Bool} (h : lineallaw07_ProgressClasses g = some r) : HC Try.prog 9 [] [.agg [.int .i64 g.1, .sl (.pair (.int .i64) (.pair (.int .i64) (.pair (.int .i64) .bool))) g.2]] [] (.bool r) := by
 unfold lineallaw07_ProgressClasses at h
 refine zH Try.func9 [.tmp 2] 90 ?_
 refine zo ?_
 refine zB [(1, .bp 1 0)] [(1, .box 24 [.int .i64 g.1, .sl (.pair (.int .i64) (.pair (.int .i64) (.pair (.int .i64) .bool))) g.2])] ?_
 refine AW.seq ?_
 refine zo ?_
 refine zS 1 [(1, .bp 1 0), (13, .agg [.int .i64 g.1, .sl (.pair (.int .i64) (.pair (.int .i64) (.pair (.int .i64) .bool))) g.2])] [(1, .box 24 [.int .i64 g.1, .sl (.pair (.int .i64) (.pair (.int .i64) (.pair (.int .i64) .bool))) g.2])] ?_
 obtain ⟨v0, hv1, h⟩ := Option.bind_eq_some_iff.1 h
 refine zC [] [] (hc_lineallaw07_Long g hv1) [(1, .bp 1 0), (14, .bool (decide (100 < (g.2.length : Int))))] [(1, .box 24 [.int .i64 g.1, .sl (.pair (.int .i64) (.pair (.int .i64) (.pair (.int .i64) .bool))) g.2])] ?_
 refine zS 1 [(1, .bp 1 0), (15, .bool (decide (100 < (g.2.length : Int))))] [(1, .box 24 [.int .i64 g.1, .sl (.pair (.int .i64) (.pair (.int .i64) (.pair (.int .i64) .bool))) g.2])] ?_
 rcases zI h with ⟨hb2, h⟩ | ⟨hb2, h⟩
 ·refine zB [(1, .bp 1 0), (19, .bool true)] [(1, .box 24 [.int .i64 g.1, .sl (.pair (.int .i64) (.pair (.int .i64) (.pair (.int .i64) .bool))) g.2])] ?_
  refine AW.cond (b := true) rfl (fun _ => ?_) (fun hb3 => by cases hb3)
  refine zo ?_
  obtain ⟨v0_2, hv4, h⟩ := Option.bind_eq_some_iff.1 h
  refine zC [] [] (hc_lineallaw07_Awake hv4) [(20, .bool v0_2)] [] ?_
  refine zB [(2, .bool v0_2)] [] ?_
  refine zr ?_
  obtain rfl := Option.some.inj h
  exact zR [] [] []
 ·refine zS 1 [(1, .bp 1 0), (15, .bool false), (16, .agg [.int .i64 g.1, .sl (.pair (.int .i64) (.pair (.int .i64) (.pair (.int .i64) .bool))) g.2])] [(1, .box 24 [.int .i64 g.1, .sl (.pair (.int .i64) (.pair (.int .i64) (.pair (.int .i64) .bool))) g.2])] ?_
  obtain ⟨v0_3, hv5, h⟩ := Option.bind_eq_some_iff.1 h
  refine zG [] [] (hc_linealref07_Valid g hv5) [(1, .bp 1 0), (15, .bool false), (17, .bool v0_3)] [(1, .box 24 [.int .i64 g.1, .sl (.pair (.int .i64) (.pair (.int .i64) (.pair (.int .i64) .bool))) g.2])] ?_
  refine zB [(1, .bp 1 0), (19, .bool (!v0_3))] [(1, .box 24 [.int .i64 g.1, .sl (.pair (.int .i64) (.pair (.int .i64) (.pair (.int .i64) .bool))) g.2])] ?_
  refine zQ h (fun hb6 h => ?_) (fun hb6 h => ?_)
  ·refine zo ?_
   obtain ⟨v0_4, hv7, h⟩ := Option.bind_eq_some_iff.1 h
   refine zC [] [] (hc_lineallaw07_Awake hv7) [(20, .bool v0_4)] [] ?_
   refine zB [(2, .bool v0_4)] [] ?_
   refine zr ?_
   obtain rfl := Option.some.inj h
   exact zR [] [] []
  ·refine zk ?_
   refine zo ?_
   refine zS 1 [(1, .bp 1 0), (22, .agg [.int .i64 g.1, .sl (.pair (.int .i64) (.pair (.int .i64) (.pair (.int .i64) .bool))) g.2])] [(1, .box 24 [.int .i64 g.1, .sl (.pair (.int .i64) (.pair (.int .i64) (.pair (.int .i64) .bool))) g.2])] ?_
   obtain ⟨v0_5, hv8, h⟩ := Option.bind_eq_some_iff.1 h
   refine zC [] [] (hc_progress_Everybody g hv8) [(1, .bp 1 0), (23, .tup [.bool v0_5.1, .int .i64 v0_5.2])] [(1, .box 24 [.int .i64 g.1, .sl (.pair (.int .i64) (.pair (.int .i64) (.pair (.int .i64) .bool))) g.2])] ?_
   refine zB [(1, .bp 1 0), (3, .bool v0_5.1), (4, .int .i64 v0_5.2)] [(1, .box 24 [.int .i64 g.1, .sl (.pair (.int .i64) (.pair (.int .i64) (.pair (.int .i64) .bool))) g.2])] ?_
   refine zo ?_
   refine zS 1 [(1, .bp 1 0), (3, .bool v0_5.1), (4, .int .i64 v0_5.2), (27, .agg [.int .i64 g.1, .sl (.pair (.int .i64) (.pair (.int .i64) (.pair (.int .i64) .bool))) g.2])] [(1, .box 24 [.int .i64 g.1, .sl (.pair (.int .i64) (.pair (.int .i64) (.pair (.int .i64) .bool))) g.2])] ?_
   obtain ⟨v0_6, hv9, h⟩ := Option.bind_eq_some_iff.1 h
   refine zC [] [] (hc_progress_Holds g 0 0 hv9) [(1, .bp 1 0), (3, .bool v0_5.1), (4, .int .i64 v0_5.2), (28, .tup [.bool v0_6.1, .int .i64 v0_6.2])] [(1, .box 24 [.int .i64 g.1, .sl (.pair (.int .i64) (.pair (.int .i64) (.pair (.int .i64) .bool))) g.2])] ?_
   refine zB [(1, .bp 1 0), (3, .bool v0_5.1), (4, .int .i64 v0_5.2), (5, .bool v0_6.1), (6, .int .i64 v0_6.2)] [(1, .box 24 [.int .i64 g.1, .sl (.pair (.int .i64) (.pair (.int .i64) (.pair (.int .i64) .bool))) g.2])] ?_
   refine AW.have2 (fun b1 : Bool => lineallaw07_ProgressClasses_k1 g v0_6 b1 = some r) (fun b1 => ⟨fr [(1, .bp 1 0), (3, .bool b1), (5, .bool v0_6.1), (7, .bool true)], hpGet [(1, .box 24 [.int .i64 g.1, .sl (.pair (.int .i64) (.pair (.int .i64) (.pair (.int .i64) .bool))) g.2])], gt⟩) (fun b1 h => ?_) (fun hk_lineallaw07_ProgressClasses_k1 => ?_)
   ·as_aux_lemma =>
     unfold lineallaw07_ProgressClasses_k1 at h
     refine AW.have1 (fun b2 : Bool => lineallaw07_ProgressClasses_k2 b1 b2 = some r) (fun b2 => ⟨fr [(3, .bool b1), (7, .bool b2)], hpGet [], gt⟩) (fun b2 h => ?_) (fun hk_lineallaw07_ProgressClasses_k2 => ?_)
     ·as_aux_lemma =>
       unfold lineallaw07_ProgressClasses_k2 at h
       refine zo ?_
       refine zS 4 [(87, .bool ((b2 == b1) != false))] [] ?_
       rcases zI h with ⟨hb10, h⟩ | ⟨hb10, h⟩
       ·refine zT [(87, .bool true)] [] gt ?_
        obtain ⟨v0_9, hv11, h⟩ := Option.bind_eq_some_iff.1 h
        refine zG [] [] (hc_lineallaw07_Awake hv11) [(87, .bool true), (88, .bool v0_9)] [] ?_
        refine zB [(2, .bool v0_9)] [] ?_
        refine AW.ret ?_
        obtain rfl := Option.some.inj h
        exact zR [] [] []
       ·refine zB [(2, .bool false)] [] ?_
        refine AW.ret ?_
        obtain rfl := Option.some.inj h
        exact zR [] [] []
     ·refine AW.seq ?_
      refine zo ?_
      refine zB [(1, .bp 1 0), (3, .bool b1), (5, .bool v0_6.1), (7, .bool true), (44, .int .i64 0)] [(1, .box 24 [.int .i64 g.1, .sl (.pair (.int .i64) (.pair (.int .i64) (.pair (.int .i64) .bool))) g.2])] ?_
      refine AW.block ?_
      obtain ⟨rv16, hw12, ho13⟩ := Option.bind_eq_some_iff.1 h
      refine AW.loopO (lineallaw07_ProgressClasses_b1 g) (fun st1 => ⟨fr [(1, .bp 1 0), (3, .bool b1), (5, .bool st1.1), (7, .bool st1.2.1), (44, .int .i64 st1.2.2)], hpGet [(1, .box 24 [.int .i64 g.1, .sl (.pair (.int .i64) (.pair (.int .i64) (.pair (.int .i64) .bool))) g.2])], gt⟩) (v0_6.1, true, 0) hw12 (zL [] [] []) ?_
      as_aux_lemma =>
       intro st1 x15 h hd14
       unfold lineallaw07_ProgressClasses_b1 at h
       refine zo ?_
       refine zB [(1, .bp 1 0), (3, .bool b1), (5, .bool st1.1), (7, .bool st1.2.1), (44, .int .i64 st1.2.2), (45, .bool (decide (st1.2.2 < 3)))] [(1, .box 24 [.int .i64 g.1, .sl (.pair (.int .i64) (.pair (.int .i64) (.pair (.int .i64) .bool))) g.2])] ?_
       refine AW.seq ?_
       refine zQ h (fun hb17 h => ?_) (fun hb17 h => ?_)
       ·refine zk ?_
        refine AW.seq ?_
        refine AW.block ?_
        refine zo ?_
        refine zB [(1, .bp 1 0), (3, .bool b1), (5, .bool st1.1), (7, .bool st1.2.1), (8, .int .i64 st1.2.2), (44, .int .i64 st1.2.2)] [(1, .box 24 [.int .i64 g.1, .sl (.pair (.int .i64) (.pair (.int .i64) (.pair (.int .i64) .bool))) g.2])] ?_
        refine zo ?_
        refine zS 2 [(1, .bp 1 0), (3, .bool b1), (5, .bool st1.1), (7, .bool st1.2.1), (8, .int .i64 st1.2.2), (44, .int .i64 st1.2.2), (48, .agg [.int .i64 g.1, .sl (.pair (.int .i64) (.pair (.int .i64) (.pair (.int .i64) .bool))) g.2]), (49, .int .i64 st1.2.2)] [(1, .box 24 [.int .i64 g.1, .sl (.pair (.int .i64) (.pair (.int .i64) (.pair (.int .i64) .bool))) g.2])] ?_
        obtain ⟨v0_7, hv18, h⟩ := Option.bind_eq_some_iff.1 h
        refine zC [] [] (hc_progress_Holds g 1 st1.2.2 hv18) [(1, .bp 1 0), (3, .bool b1), (5, .bool st1.1), (7, .bool st1.2.1), (8, .int .i64 st1.2.2), (44, .int .i64 st1.2.2), (50, .tup [.bool v0_7.1, .int .i64 v0_7.2])] [(1, .box 24 [.int .i64 g.1, .sl (.pair (.int .i64) (.pair (.int .i64) (.pair (.int .i64) .bool))) g.2])] ?_
        refine zB [(1, .bp 1 0), (3, .bool b1), (5, .bool st1.1), (7, .bool st1.2.1), (8, .int .i64 st1.2.2), (9, .bool v0_7.1), (10, .int .i64 v0_7.2), (44, .int .i64 st1.2.2)] [(1, .box 24 [.int .i64 g.1, .sl (.pair (.int .i64) (.pair (.int .i64) (.pair (.int .i64) .bool))) g.2])] ?_
        refine zo ?_
        refine zS 2 [(1, .bp 1 0), (3, .bool b1), (5, .bool st1.1), (7, .bool st1.2.1), (9, .bool v0_7.1), (10, .int .i64 v0_7.2), (44, .int .i64 st1.2.2), (54, .agg [.int .i64 g.1, .sl (.pair (.int .i64) (.pair (.int .i64) (.pair (.int .i64) .bool))) g.2]), (55, .int .i64 st1.2.2)] [(1, .box 24 [.int .i64 g.1, .sl (.pair (.int .i64) (.pair (.int .i64) (.pair (.int .i64) .bool))) g.2])] ?_
        obtain ⟨v0_8, hv19, h⟩ := Option.bind_eq_some_iff.1 h
        refine zC [] [] (hc_progress_Holds g 2 st1.2.2 hv19) [(1, .bp 1 0), (3, .bool b1), (5, .bool st1.1), (7, .bool st1.2.1), (9, .bool v0_7.1), (10, .int .i64 v0_7.2), (44, .int .i64 st1.2.2), (56, .tup [.bool v0_8.1, .int .i64 v0_8.2])] [(1, .box 24 [.int .i64 g.1, .sl (.pair (.int .i64) (.pair (.int .i64) (.pair (.int .i64) .bool))) g.2])] ?_
        refine zB [(1, .bp 1 0), (3, .bool b1), (5, .bool st1.1), (7, .bool st1.2.1), (9, .bool v0_7.1), (10, .int .i64 v0_7.2), (11, .bool v0_8.1), (12, .int .i64 v0_8.2), (44, .int .i64 st1.2.2)] [(1, .box 24 [.int .i64 g.1, .sl (.pair (.int .i64) (.pair (.int .i64) (.pair (.int .i64) .bool))) g.2])] ?_
        refine AW.seq ?_
        refine zo ?_
        refine zS 3 [(1, .bp 1 0), (3, .bool b1), (5, .bool st1.1), (7, .bool st1.2.1), (9, .bool v0_7.1), (11, .bool v0_8.1), (12, .int .i64 v0_8.2), (44, .int .i64 st1.2.2), (61, .bool (!(decide (v0_7.2 = 0))))] [(1, .box 24 [.int .i64 g.1, .sl (.pair (.int .i64) (.pair (.int .i64) (.pair (.int .i64) .bool))) g.2])] ?_
        rcases zI h with ⟨hb20, h⟩ | ⟨hb20, h⟩
        ·refine zS 5 [(1, .bp 1 0), (3, .bool b1), (5, .bool st1.1), (7, .bool st1.2.1), (9, .bool v0_7.1), (11, .bool v0_8.1), (44, .int .i64 st1.2.2), (65, .bool true), (66, .cv (undef))] [(1, .box 24 [.int .i64 g.1, .sl (.pair (.int .i64) (.pair (.int .i64) (.pair (.int .i64) .bool))) g.2])] ?_
         refine zS 4 [(1, .bp 1 0), (3, .bool b1), (5, .bool st1.1), (7, .bool st1.2.1), (9, .bool v0_7.1), (11, .bool v0_8.1), (44, .int .i64 st1.2.2), (65, .bool true), (70, .cv (undef))] [(1, .box 24 [.int .i64 g.1, .sl (.pair (.int .i64) (.pair (.int .i64) (.pair (.int .i64) .bool))) g.2])] ?_
         refine zS 5 [(1, .bp 1 0), (3, .bool b1), (5, .bool st1.1), (7, .bool st1.2.1), (9, .bool v0_7.1), (44, .int .i64 st1.2.2), (72, .bool true), (74, .cv (undef)), (75, .cv (undef))] [(1, .box 24 [.int .i64 g.1, .sl (.pair (.int .i64) (.pair (.int .i64) (.pair (.int .i64) .bool))) g.2])] ?_
         refine zB [(1, .bp 1 0), (3, .bool b1), (5, .bool st1.1), (7, .bool st1.2.1), (9, .bool v0_7.1), (44, .int .i64 st1.2.2), (78, .bool true)] [(1, .box 24 [.int .i64 g.1, .sl (.pair (.int .i64) (.pair (.int .i64) (.pair (.int .i64) .bool))) g.2])] ?_
         refine AW.cond (b := true) rfl (fun _ => ?_) (fun hb21 => by cases hb21)
         refine zo ?_
         refine zB [(2, .bool false)] [] ?_
         refine zr ?_
         refine ablock_r ?_
         refine athen_r ?_
         obtain rfl := Option.some.inj h
         rw [← hd14 _ rfl] at ho13
         have h := ho13
         try simp only at h
         refine athen_r ?_
         refine ablock_r ?_
         refine athen_r ?_
         obtain rfl := Option.some.inj h
         exact zR [] [] []
        ·refine zS 4 [(1, .bp 1 0), (3, .bool b1), (5, .bool st1.1), (7, .bool st1.2.1), (9, .bool v0_7.1), (11, .bool v0_8.1), (44, .int .i64 st1.2.2), (65, .bool (!(decide (v0_8.2 = 0))))] [(1, .box 24 [.int .i64 g.1, .sl (.pair (.int .i64) (.pair (.int .i64) (.pair (.int .i64) .bool))) g.2])] ?_
         rcases zI h with ⟨hb22, h⟩ | ⟨hb22, h⟩
         ·refine zS 4 [(1, .bp 1 0), (3, .bool b1), (5, .bool st1.1), (7, .bool st1.2.1), (9, .bool v0_7.1), (11, .bool v0_8.1), (44, .int .i64 st1.2.2), (65, .bool true), (67, .cv (undef)), (69, .cv (undef))] [(1, .box 24 [.int .i64 g.1, .sl (.pair (.int .i64) (.pair (.int .i64) (.pair (.int .i64) .bool))) g.2])] ?_
          refine zS 5 [(1, .bp 1 0), (3, .bool b1), (5, .bool st1.1), (7, .bool st1.2.1), (9, .bool v0_7.1), (11, .bool v0_8.1), (44, .int .i64 st1.2.2), (72, .bool true), (74, .cv (undef))] [(1, .box 24 [.int .i64 g.1, .sl (.pair (.int .i64) (.pair (.int .i64) (.pair (.int .i64) .bool))) g.2])] ?_
          refine zB [(1, .bp 1 0), (3, .bool b1), (5, .bool st1.1), (7, .bool st1.2.1), (9, .bool v0_7.1), (44, .int .i64 st1.2.2), (78, .bool true)] [(1, .box 24 [.int .i64 g.1, .sl (.pair (.int .i64) (.pair (.int .i64) (.pair (.int .i64) .bool))) g.2])] ?_
          refine AW.cond (b := true) rfl (fun _ => ?_) (fun hb23 => by cases hb23)
          refine zo ?_
          refine zB [(2, .bool false)] [] ?_
          refine zr ?_
          refine ablock_r ?_
          refine athen_r ?_
          obtain rfl := Option.some.inj h
          rw [← hd14 _ rfl] at ho13
          have h := ho13
          try simp only at h
          refine athen_r ?_
          refine ablock_r ?_
          refine athen_r ?_
          obtain rfl := Option.some.inj h
          exact zR [] [] []
         ·refine zS 2 [(1, .bp 1 0), (3, .bool b1), (5, .bool st1.1), (7, .bool st1.2.1), (9, .bool v0_7.1), (11, .bool v0_8.1), (44, .int .i64 st1.2.2), (65, .bool false), (67, .bool v0_7.1)] [(1, .box 24 [.int .i64 g.1, .sl (.pair (.int .i64) (.pair (.int .i64) (.pair (.int .i64) .bool))) g.2])] ?_
          rcases zI h with ⟨hb24, h⟩ | ⟨hb24, h⟩
          ·refine zS 5 [(1, .bp 1 0), (3, .bool b1), (5, .bool st1.1), (7, .bool st1.2.1), (9, .bool true), (11, .bool v0_8.1), (44, .int .i64 st1.2.2), (72, .bool (!v0_8.1))] [(1, .box 24 [.int .i64 g.1, .sl (.pair (.int .i64) (.pair (.int .i64) (.pair (.int .i64) .bool))) g.2])] ?_
           rcases zI h with ⟨hb25, h⟩ | ⟨hb25, h⟩
           ·refine zS 4 [(1, .bp 1 0), (3, .bool b1), (5, .bool st1.1), (7, .bool st1.2.1), (9, .bool true), (44, .int .i64 st1.2.2), (72, .bool true), (74, .cv (undef)), (76, .cv (undef))] [(1, .box 24 [.int .i64 g.1, .sl (.pair (.int .i64) (.pair (.int .i64) (.pair (.int .i64) .bool))) g.2])] ?_
            refine zB [(1, .bp 1 0), (3, .bool b1), (5, .bool st1.1), (7, .bool st1.2.1), (9, .bool true), (44, .int .i64 st1.2.2), (78, .bool true)] [(1, .box 24 [.int .i64 g.1, .sl (.pair (.int .i64) (.pair (.int .i64) (.pair (.int .i64) .bool))) g.2])] ?_
            refine AW.cond (b := true) rfl (fun _ => ?_) (fun hb26 => by cases hb26)
            refine zo ?_
            refine zB [(2, .bool false)] [] ?_
            refine zr ?_
            refine ablock_r ?_
            refine athen_r ?_
            obtain rfl := Option.some.inj h
            rw [← hd14 _ rfl] at ho13
            have h := ho13
            try simp only at h
            refine athen_r ?_
            refine ablock_r ?_
            refine athen_r ?_
            obtain rfl := Option.some.inj h
            exact zR [] [] []
           ·refine zS 2 [(1, .bp 1 0), (3, .bool b1), (5, .bool st1.1), (7, .bool st1.2.1), (9, .bool true), (11, .bool v0_8.1), (44, .int .i64 st1.2.2), (72, .bool false), (74, .bool st1.1)] [(1, .box 24 [.int .i64 g.1, .sl (.pair (.int .i64) (.pair (.int .i64) (.pair (.int .i64) .bool))) g.2])] ?_
            rcases zI h with ⟨hb27, h⟩ | ⟨hb27, h⟩
            ·refine zB [(1, .bp 1 0), (3, .bool b1), (5, .bool true), (7, .bool st1.2.1), (9, .bool true), (44, .int .i64 st1.2.2), (78, .bool false)] [(1, .box 24 [.int .i64 g.1, .sl (.pair (.int .i64) (.pair (.int .i64) (.pair (.int .i64) .bool))) g.2])] ?_
             refine AW.cond (b := false) rfl (fun hb28 => by cases hb28) (fun _ => ?_)
             refine zk ?_
             refine AW.ops ?_
             refine zS 2 [(1, .bp 1 0), (3, .bool b1), (5, .bool true), (9, .bool true), (44, .int .i64 st1.2.2), (80, .bool st1.2.1)] [(1, .box 24 [.int .i64 g.1, .sl (.pair (.int .i64) (.pair (.int .i64) (.pair (.int .i64) .bool))) g.2])] ?_
             rcases zI h with ⟨hb29, h⟩ | ⟨hb29, h⟩
             ·refine zA [(1, .bp 1 0), (3, .bool b1), (5, .bool true), (7, .bool true), (44, .int .i64 st1.2.2)] [(1, .box 24 [.int .i64 g.1, .sl (.pair (.int .i64) (.pair (.int .i64) (.pair (.int .i64) .bool))) g.2])] ?_
              refine ablock_n ?_
              refine athen_n ?_
              refine AW.ops ?_
              obtain ⟨c30, h⟩ := ck_some.1 h
              refine zA [(1, .bp 1 0), (3, .bool b1), (5, .bool true), (7, .bool true), (44, .int .i64 (st1.2.2 + 1))] [(1, .box 24 [.int .i64 g.1, .sl (.pair (.int .i64) (.pair (.int .i64) (.pair (.int .i64) .bool))) g.2])] ?_
              obtain rfl := Option.some.inj h
              exact ⟨_, rfl, zL [] [] []⟩
             ·refine zA [(1, .bp 1 0), (3, .bool b1), (5, .bool true), (7, .bool false), (44, .int .i64 st1.2.2)] [(1, .box 24 [.int .i64 g.1, .sl (.pair (.int .i64) (.pair (.int .i64) (.pair (.int .i64) .bool))) g.2])] ?_
              refine ablock_n ?_
              refine athen_n ?_
              refine AW.ops ?_
              obtain ⟨c31, h⟩ := ck_some.1 h
              refine zA [(1, .bp 1 0), (3, .bool b1), (5, .bool true), (7, .bool false), (44, .int .i64 (st1.2.2 + 1))] [(1, .box 24 [.int .i64 g.1, .sl (.pair (.int .i64) (.pair (.int .i64) (.pair (.int .i64) .bool))) g.2])] ?_
              obtain rfl := Option.some.inj h
              exact ⟨_, rfl, zL [] [] []⟩
            ·refine zB [(1, .bp 1 0), (3, .bool b1), (5, .bool false), (7, .bool st1.2.1), (9, .bool true), (44, .int .i64 st1.2.2), (78, .bool false)] [(1, .box 24 [.int .i64 g.1, .sl (.pair (.int .i64) (.pair (.int .i64) (.pair (.int .i64) .bool))) g.2])] ?_
             refine AW.cond (b := false) rfl (fun hb32 => by cases hb32) (fun _ => ?_)
             refine zk ?_
             refine AW.ops ?_
             refine zS 2 [(1, .bp 1 0), (3, .bool b1), (5, .bool false), (9, .bool true), (44, .int .i64 st1.2.2), (80, .bool st1.2.1)] [(1, .box 24 [.int .i64 g.1, .sl (.pair (.int .i64) (.pair (.int .i64) (.pair (.int .i64) .bool))) g.2])] ?_
             rcases zI h with ⟨hb33, h⟩ | ⟨hb33, h⟩
             ·refine zA [(1, .bp 1 0), (3, .bool b1), (5, .bool false), (7, .bool true), (44, .int .i64 st1.2.2)] [(1, .box 24 [.int .i64 g.1, .sl (.pair (.int .i64) (.pair (.int .i64) (.pair (.int .i64) .bool))) g.2])] ?_
              refine ablock_n ?_
              refine athen_n ?_
              refine AW.ops ?_
              obtain ⟨c34, h⟩ := ck_some.1 h
              refine zA [(1, .bp 1 0), (3, .bool b1), (5, .bool false), (7, .bool true), (44, .int .i64 (st1.2.2 + 1))] [(1, .box 24 [.int .i64 g.1, .sl (.pair (.int .i64) (.pair (.int .i64) (.pair (.int .i64) .bool))) g.2])] ?_
              obtain rfl := Option.some.inj h
              exact ⟨_, rfl, zL [] [] []⟩
             ·refine zA [(1, .bp 1 0), (3, .bool b1), (5, .bool false), (7, .bool false), (44, .int .i64 st1.2.2)] [(1, .box 24 [.int .i64 g.1, .sl (.pair (.int .i64) (.pair (.int .i64) (.pair (.int .i64) .bool))) g.2])] ?_
              refine ablock_n ?_
              refine athen_n ?_
              refine AW.ops ?_
              obtain ⟨c35, h⟩ := ck_some.1 h
              refine zA [(1, .bp 1 0), (3, .bool b1), (5, .bool false), (7, .bool false), (44, .int .i64 (st1.2.2 + 1))] [(1, .box 24 [.int .i64 g.1, .sl (.pair (.int .i64) (.pair (.int .i64) (.pair (.int .i64) .bool))) g.2])] ?_
              obtain rfl := Option.some.inj h
              exact ⟨_, rfl, zL [] [] []⟩
          ·refine zS 5 [(1, .bp 1 0), (3, .bool b1), (5, .bool st1.1), (7, .bool st1.2.1), (9, .bool false), (11, .bool v0_8.1), (44, .int .i64 st1.2.2), (72, .bool false)] [(1, .box 24 [.int .i64 g.1, .sl (.pair (.int .i64) (.pair (.int .i64) (.pair (.int .i64) .bool))) g.2])] ?_
           refine zS 2 [(1, .bp 1 0), (3, .bool b1), (5, .bool st1.1), (7, .bool st1.2.1), (9, .bool false), (11, .bool v0_8.1), (44, .int .i64 st1.2.2), (72, .bool false), (74, .bool st1.1)] [(1, .box 24 [.int .i64 g.1, .sl (.pair (.int .i64) (.pair (.int .i64) (.pair (.int .i64) .bool))) g.2])] ?_
           rcases zI h with ⟨hb36, h⟩ | ⟨hb36, h⟩
           ·refine zB [(1, .bp 1 0), (3, .bool b1), (5, .bool true), (7, .bool st1.2.1), (9, .bool false), (44, .int .i64 st1.2.2), (78, .bool (!v0_8.1))] [(1, .box 24 [.int .i64 g.1, .sl (.pair (.int .i64) (.pair (.int .i64) (.pair (.int .i64) .bool))) g.2])] ?_
            refine zQ h (fun hb37 h => ?_) (fun hb37 h => ?_)
            ·refine zo ?_
             refine zB [(2, .bool false)] [] ?_
             refine zr ?_
             refine ablock_r ?_
             refine athen_r ?_
             obtain rfl := Option.some.inj h
             rw [← hd14 _ rfl] at ho13
             have h := ho13
             try simp only at h
             refine athen_r ?_
             refine ablock_r ?_
             refine athen_r ?_
             obtain rfl := Option.some.inj h
             exact zR [] [] []
            ·refine zk ?_
             refine AW.ops ?_
             refine zS 2 [(1, .bp 1 0), (3, .bool b1), (5, .bool true), (9, .bool false), (44, .int .i64 st1.2.2), (80, .bool st1.2.1)] [(1, .box 24 [.int .i64 g.1, .sl (.pair (.int .i64) (.pair (.int .i64) (.pair (.int .i64) .bool))) g.2])] ?_
             rcases zI h with ⟨hb38, h⟩ | ⟨hb38, h⟩
             ·refine zA [(1, .bp 1 0), (3, .bool b1), (5, .bool true), (7, .bool false), (44, .int .i64 st1.2.2)] [(1, .box 24 [.int .i64 g.1, .sl (.pair (.int .i64) (.pair (.int .i64) (.pair (.int .i64) .bool))) g.2])] ?_
              refine ablock_n ?_
              refine athen_n ?_
              refine AW.ops ?_
              obtain ⟨c39, h⟩ := ck_some.1 h
              refine zA [(1, .bp 1 0), (3, .bool b1), (5, .bool true), (7, .bool false), (44, .int .i64 (st1.2.2 + 1))] [(1, .box 24 [.int .i64 g.1, .sl (.pair (.int .i64) (.pair (.int .i64) (.pair (.int .i64) .bool))) g.2])] ?_
              obtain rfl := Option.some.inj h
              exact ⟨_, rfl, zL [] [] []⟩
             ·refine zA [(1, .bp 1 0), (3, .bool b1), (5, .bool true), (7, .bool false), (44, .int .i64 st1.2.2)] [(1, .box 24 [.int .i64 g.1, .sl (.pair (.int .i64) (.pair (.int .i64) (.pair (.int .i64) .bool))) g.2])] ?_
              refine ablock_n ?_
              refine athen_n ?_
              refine AW.ops ?_
              obtain ⟨c40, h⟩ := ck_some.1 h
              refine zA [(1, .bp 1 0), (3, .bool b1), (5, .bool true), (7, .bool false), (44, .int .i64 (st1.2.2 + 1))] [(1, .box 24 [.int .i64 g.1, .sl (.pair (.int .i64) (.pair (.int .i64) (.pair (.int .i64) .bool))) g.2])] ?_
              obtain rfl := Option.some.inj h
              exact ⟨_, rfl, zL [] [] []⟩
           ·refine zB [(1, .bp 1 0), (3, .bool b1), (5, .bool false), (7, .bool st1.2.1), (9, .bool false), (44, .int .i64 st1.2.2), (78, .bool false)] [(1, .box 24 [.int .i64 g.1, .sl (.pair (.int .i64) (.pair (.int .i64) (.pair (.int .i64) .bool))) g.2])] ?_
            refine AW.cond (b := false) rfl (fun hb41 => by cases hb41) (fun _ => ?_)
            refine zk ?_
            refine AW.ops ?_
            refine zS 2 [(1, .bp 1 0), (3, .bool b1), (5, .bool false), (9, .bool false), (44, .int .i64 st1.2.2), (80, .bool st1.2.1)] [(1, .box 24 [.int .i64 g.1, .sl (.pair (.int .i64) (.pair (.int .i64) (.pair (.int .i64) .bool))) g.2])] ?_
            rcases zI h with ⟨hb42, h⟩ | ⟨hb42, h⟩
            ·refine zA [(1, .bp 1 0), (3, .bool b1), (5, .bool false), (7, .bool false), (44, .int .i64 st1.2.2)] [(1, .box 24 [.int .i64 g.1, .sl (.pair (.int .i64) (.pair (.int .i64) (.pair (.int .i64) .bool))) g.2])] ?_
             refine ablock_n ?_
             refine athen_n ?_
             refine AW.ops ?_
             obtain ⟨c43, h⟩ := ck_some.1 h
             refine zA [(1, .bp 1 0), (3, .bool b1), (5, .bool false), (7, .bool false), (44, .int .i64 (st1.2.2 + 1))] [(1, .box 24 [.int .i64 g.1, .sl (.pair (.int .i64) (.pair (.int .i64) (.pair (.int .i64) .bool))) g.2])] ?_
             obtain rfl := Option.some.inj h
             exact ⟨_, rfl, zL [] [] []⟩
            ·refine zA [(1, .bp 1 0), (3, .bool b1), (5, .bool false), (7, .bool false), (44, .int .i64 st1.2.2)] [(1, .box 24 [.int .i64 g.1, .sl (.pair (.int .i64) (.pair (.int .i64) (.pair (.int .i64) .bool))) g.2])] ?_
             refine ablock_n ?_
             refine athen_n ?_
             refine AW.ops ?_
             obtain ⟨c44, h⟩ := ck_some.1 h
             refine zA [(1, .bp 1 0), (3, .bool b1), (5, .bool false), (7, .bool false), (44, .int .i64 (st1.2.2 + 1))] [(1, .box 24 [.int .i64 g.1, .sl (.pair (.int .i64) (.pair (.int .i64) (.pair (.int .i64) .bool))) g.2])] ?_
             obtain rfl := Option.some.inj h
             exact ⟨_, rfl, zL [] [] []⟩
       ·refine AW.exit ?_
        refine athen_e ?_
        obtain rfl := Option.some.inj h
        rw [← hd14 _ rfl] at ho13
        have h := ho13
        try simp only at h
        refine athen_e ?_
        refine ablock_s ?_
        refine athen_n ?_
        exact AW.weaken (zL [] [] []) (hk_lineallaw07_ProgressClasses_k2 _ h)
   ·refine AW.seq ?_
    refine zo ?_
    refine zS 3 [(1, .bp 1 0), (3, .bool v0_5.1), (5, .bool v0_6.1), (6, .int .i64 v0_6.2), (33, .bool (!(decide (v0_5.2 = 0))))] [(1, .box 24 [.int .i64 g.1, .sl (.pair (.int .i64) (.pair (.int .i64) (.pair (.int .i64) .bool))) g.2])] ?_
    rcases zI h with ⟨hb45, h⟩ | ⟨hb45, h⟩
    ·refine zS 5 [(1, .bp 1 0), (3, .bool v0_5.1), (5, .bool v0_6.1), (37, .bool true), (38, .cv (undef))] [(1, .box 24 [.int .i64 g.1, .sl (.pair (.int .i64) (.pair (.int .i64) (.pair (.int .i64) .bool))) g.2])] ?_
     refine zS 4 [(1, .bp 1 0), (3, .bool v0_5.1), (5, .bool v0_6.1), (37, .bool true), (42, .cv (undef))] [(1, .box 24 [.int .i64 g.1, .sl (.pair (.int .i64) (.pair (.int .i64) (.pair (.int .i64) .bool))) g.2])] ?_
     refine zB [(1, .bp 1 0), (3, .bool v0_5.1), (5, .bool v0_6.1), (43, .bool true)] [(1, .box 24 [.int .i64 g.1, .sl (.pair (.int .i64) (.pair (.int .i64) (.pair (.int .i64) .bool))) g.2])] ?_
     refine AW.cond (b := true) rfl (fun _ => ?_) (fun hb46 => by cases hb46)
     refine zo ?_
     refine zB [(2, .bool false)] [] ?_
     refine zr ?_
     obtain rfl := Option.some.inj h
     exact zR [] [] []
    ·refine zS 4 [(1, .bp 1 0), (3, .bool v0_5.1), (5, .bool v0_6.1), (37, .bool (!(decide (v0_6.2 = 0))))] [(1, .box 24 [.int .i64 g.1, .sl (.pair (.int .i64) (.pair (.int .i64) (.pair (.int .i64) .bool))) g.2])] ?_
     rcases zI h with ⟨hb47, h⟩ | ⟨hb47, h⟩
     ·refine zS 4 [(1, .bp 1 0), (3, .bool v0_5.1), (5, .bool v0_6.1), (37, .bool true), (39, .cv (undef)), (41, .cv (undef))] [(1, .box 24 [.int .i64 g.1, .sl (.pair (.int .i64) (.pair (.int .i64) (.pair (.int .i64) .bool))) g.2])] ?_
      refine zB [(1, .bp 1 0), (3, .bool v0_5.1), (5, .bool v0_6.1), (43, .bool true)] [(1, .box 24 [.int .i64 g.1, .sl (.pair (.int .i64) (.pair (.int .i64) (.pair (.int .i64) .bool))) g.2])] ?_
      refine AW.cond (b := true) rfl (fun _ => ?_) (fun hb48 => by cases hb48)
      refine zo ?_
      refine zB [(2, .bool false)] [] ?_
      refine zr ?_
      obtain rfl := Option.some.inj h
      exact zR [] [] []
     ·refine zS 2 [(1, .bp 1 0), (3, .bool v0_5.1), (5, .bool v0_6.1), (37, .bool false), (39, .bool v0_5.1)] [(1, .box 24 [.int .i64 g.1, .sl (.pair (.int .i64) (.pair (.int .i64) (.pair (.int .i64) .bool))) g.2])] ?_
      rcases zI h with ⟨hb49, h⟩ | ⟨hb49, h⟩
      ·refine zB [(1, .bp 1 0), (3, .bool true), (5, .bool v0_6.1), (43, .bool (!v0_6.1))] [(1, .box 24 [.int .i64 g.1, .sl (.pair (.int .i64) (.pair (.int .i64) (.pair (.int .i64) .bool))) g.2])] ?_
       refine zQ h (fun hb50 h => ?_) (fun hb50 h => ?_)
       ·refine zo ?_
        refine zB [(2, .bool false)] [] ?_
        refine zr ?_
        obtain rfl := Option.some.inj h
        exact zR [] [] []
       ·refine zk ?_
        refine zo ?_
        refine zB [(1, .bp 1 0), (3, .bool true), (5, .bool v0_6.1), (7, .bool true)] [(1, .box 24 [.int .i64 g.1, .sl (.pair (.int .i64) (.pair (.int .i64) (.pair (.int .i64) .bool))) g.2])] ?_
        exact AW.weaken (zL [] [] []) (hk_lineallaw07_ProgressClasses_k1 _ h)
      ·refine zB [(1, .bp 1 0), (3, .bool false), (5, .bool v0_6.1), (43, .bool false)] [(1, .box 24 [.int .i64 g.1, .sl (.pair (.int .i64) (.pair (.int .i64) (.pair (.int .i64) .bool))) g.2])] ?_
       refine AW.cond (b := false) rfl (fun hb51 => by cases hb51) (fun _ => ?_)
       refine zk ?_
       refine zo ?_
       refine zB [(1, .bp 1 0), (3, .bool false), (5, .bool v0_6.1), (7, .bool true)] [(1, .box 24 [.int .i64 g.1, .sl (.pair (.int .i64) (.pair (.int .i64) (.pair (.int .i64) .bool))) g.2])] ?_
       exact AW.weaken (zL [] [] []) (hk_lineallaw07_ProgressClasses_k1 _ h)

end Go.Proofs.Yteclokkdgmacpaa
