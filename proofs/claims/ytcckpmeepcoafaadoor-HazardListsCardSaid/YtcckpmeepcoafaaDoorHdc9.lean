/-
  Made by wip/tool/dc.py out of the print of the program: contracts.
-/
import Derived.Test.YtcckpmeepcoafaaDoorHzp
import Derived.Test.YtcckpmeepcoafaaDoorShz
import Derived.Test.YtcckpmeepcoafaaDoorAvd
import Derived.Test.YtcckpmeepcoafaaDoorHdc6
import Derived.Test.YtcckpmeepcoafaaDoorHdc7
import Derived.Test.YtcckpmeepcoafaaDoorHdc8
namespace Go.Proofs.YtcckpmeepcoafaaDoor
open Go.RowKit

set_option linter.unusedSimpArgs false
set_option linter.unusedVariables false
set_option linter.constructorNameAsVariable false

set_option maxRecDepth 100000
set_option maxHeartbeats 40000000

theorem hc_lineallaw06_HazardLists (shape : Int × Int) (deeds : List (Int × Int × Int × Int)) {r : Bool} (h : lineallaw06_HazardLists shape deeds = some r) : HC Tryd.prog 7 [] [.agg [.int .u8 shape.1, .int .u8 shape.2], .sl (.pair (.int .i64) (.pair (.int .i64) (.pair (.int .i64) (.int .i64)))) deeds] [] (.bool r) := by
 unfold lineallaw06_HazardLists at h
 refine zH Tryd.func7 [.tmp 4] 187 ?_
 refine zo ?_
 refine zB [(1, .sl (.pair (.int .i64) (.pair (.int .i64) (.pair (.int .i64) (.int .i64)))) deeds), (2, .bp 2 0)] [(2, .box 55 [.int .u8 shape.1, .int .u8 shape.2])] ?_
 refine AW.seq ?_
 refine zo ?_
 refine zB [(1, .sl (.pair (.int .i64) (.pair (.int .i64) (.pair (.int .i64) (.int .i64)))) deeds), (2, .bp 2 0), (27, .bool (decide (100 < (deeds.length : Int))))] [(2, .box 55 [.int .u8 shape.1, .int .u8 shape.2])] ?_
 refine zQ h (fun hb1 h => ?_) (fun hb1 h => ?_)
 ·refine zo ?_
  obtain ⟨v0, hv2, h⟩ := Option.bind_eq_some_iff.1 h
  refine zC [] [] (hc_lineallaw06_Sane hv2) [(28, .bool v0)] [] ?_
  refine zB [(4, .bool v0)] [] ?_
  refine zr ?_
  obtain rfl := Option.some.inj h
  exact zR [] [] []
 ·refine zk ?_
  refine zo ?_
  refine zS 1 [(1, .sl (.pair (.int .i64) (.pair (.int .i64) (.pair (.int .i64) (.int .i64)))) deeds), (2, .bp 2 0), (29, .agg [.int .u8 shape.1, .int .u8 shape.2])] [(2, .box 55 [.int .u8 shape.1, .int .u8 shape.2])] ?_
  obtain ⟨v0_2, hv3, h⟩ := Option.bind_eq_some_iff.1 h
  rcases v0_2 with v0_3 | v0_4
  ·try simp only at h
   refine zC [] [] (hc_lineallaw06_done_a0 shape [] hv3) [(1, .sl (.pair (.int .i64) (.pair (.int .i64) (.pair (.int .i64) (.int .i64)))) deeds), (2, .bp 2 0), (30, .cv (.pointer none))] [(2, .box 55 [.int .u8 shape.1, .int .u8 shape.2])] ?_
   refine zB [(1, .sl (.pair (.int .i64) (.pair (.int .i64) (.pair (.int .i64) (.int .i64)))) deeds), (2, .bp 2 0), (5, .cv (.pointer none))] [(2, .box 55 [.int .u8 shape.1, .int .u8 shape.2])] ?_
   refine AW.seq ?_
   refine zo ?_
   refine zS 1 [(1, .sl (.pair (.int .i64) (.pair (.int .i64) (.pair (.int .i64) (.int .i64)))) deeds), (2, .bp 2 0), (5, .cv (.pointer none)), (31, .cv (.pointer none))] [(2, .box 55 [.int .u8 shape.1, .int .u8 shape.2])] ?_
   refine AO.ptrNil (neg := false) (p := true) (by decide) (.inl rfl) (by kernel_rfl) rfl rfl rfl ?_
   refine zT [(1, .sl (.pair (.int .i64) (.pair (.int .i64) (.pair (.int .i64) (.int .i64)))) deeds), (2, .bp 2 0), (5, .cv (.pointer none)), (32, .bool true)] [(2, .box 55 [.int .u8 shape.1, .int .u8 shape.2])] gt ?_
   refine zB [(1, .sl (.pair (.int .i64) (.pair (.int .i64) (.pair (.int .i64) (.int .i64)))) deeds), (2, .bp 2 0), (5, .cv (.pointer none)), (32, .bool true)] [(2, .box 55 [.int .u8 shape.1, .int .u8 shape.2])] ?_
   refine AW.cond (b := true) rfl (fun _ => ?_) (fun hb4 => by cases hb4)
   refine zo ?_
   refine zB [(4, .bool false)] [] ?_
   refine zr ?_
   obtain rfl := Option.some.inj h
   exact zR [] [] []
  ·try simp only at h
   refine zC [] [] (hc_lineallaw06_done_a1 shape [] hv3) [(1, .sl (.pair (.int .i64) (.pair (.int .i64) (.pair (.int .i64) (.int .i64)))) deeds), (2, .bp 2 0), (30, .bp 40000 0)] [(2, .box 55 [.int .u8 shape.1, .int .u8 shape.2]), (40000, .box 71 (.int .i64 (1 + (shape.1 % 4)) :: (.int .i64 (1 + (shape.2 % 4)) :: (cellsX T63 v0_4.1 ++ (cellsX T65 v0_4.2.1 ++ (cellsX T69 v0_4.2.2))))))] ?_
   refine zB [(1, .sl (.pair (.int .i64) (.pair (.int .i64) (.pair (.int .i64) (.int .i64)))) deeds), (2, .bp 2 0), (5, .bp 40000 0)] [(2, .box 55 [.int .u8 shape.1, .int .u8 shape.2]), (40000, .box 71 (.int .i64 (1 + (shape.1 % 4)) :: (.int .i64 (1 + (shape.2 % 4)) :: (cellsX T63 v0_4.1 ++ (cellsX T65 v0_4.2.1 ++ (cellsX T69 v0_4.2.2))))))] ?_
   refine AW.seq ?_
   refine zo ?_
   refine zS 1 [(1, .sl (.pair (.int .i64) (.pair (.int .i64) (.pair (.int .i64) (.int .i64)))) deeds), (2, .bp 2 0), (5, .bp 40000 0), (31, .bp 40000 0)] [(2, .box 55 [.int .u8 shape.1, .int .u8 shape.2]), (40000, .box 71 (.int .i64 (1 + (shape.1 % 4)) :: (.int .i64 (1 + (shape.2 % 4)) :: (cellsX T63 v0_4.1 ++ (cellsX T65 v0_4.2.1 ++ (cellsX T69 v0_4.2.2))))))] ?_
   refine AO.ptrNil (neg := false) (p := false) (by decide) (.inl rfl) (by kernel_rfl) rfl rfl rfl ?_
   refine zT [(1, .sl (.pair (.int .i64) (.pair (.int .i64) (.pair (.int .i64) (.int .i64)))) deeds), (2, .bp 2 0), (5, .bp 40000 0), (32, .bool false)] [(2, .box 55 [.int .u8 shape.1, .int .u8 shape.2]), (40000, .box 71 (.int .i64 (1 + (shape.1 % 4)) :: (.int .i64 (1 + (shape.2 % 4)) :: (cellsX T63 v0_4.1 ++ (cellsX T65 v0_4.2.1 ++ (cellsX T69 v0_4.2.2))))))] gt ?_
   refine zB [(1, .sl (.pair (.int .i64) (.pair (.int .i64) (.pair (.int .i64) (.int .i64)))) deeds), (2, .bp 2 0), (5, .bp 40000 0), (32, .bool false)] [(2, .box 55 [.int .u8 shape.1, .int .u8 shape.2]), (40000, .box 71 (.int .i64 (1 + (shape.1 % 4)) :: (.int .i64 (1 + (shape.2 % 4)) :: (cellsX T63 v0_4.1 ++ (cellsX T65 v0_4.2.1 ++ (cellsX T69 v0_4.2.2))))))] ?_
   refine AW.cond (b := false) rfl (fun hb5 => by cases hb5) (fun _ => ?_)
   refine zk ?_
   refine AW.seq ?_
   refine AW.draw tab_ok mixed_ok [] [] (by decide) (lex_fast (by kernel_rfl)) ?_
   as_aux_lemma =>
    obtain ⟨c7, h⟩ := ck_some.1 h
    obtain ⟨c8, h⟩ := ck_some.1 h
    obtain ⟨c9, h⟩ := ck_some.1 h
    refine adops_cut 6 (fun K' hK6 => ?_)
    try dsimp only [List.drop_succ_cons, List.drop_zero, List.take_succ_cons, List.take_zero]
    simp only [go_sem, hb1]
    repeat with_reducible refine zN ?_
    refine hK6 _ ?_
    as_aux_lemma =>
     obtain ⟨c11, h⟩ := ck_some.1 h
     obtain ⟨c12, h⟩ := ck_some.1 h
     obtain ⟨c13, h⟩ := ck_some.1 h
     refine adops_cut 6 (fun K' hK10 => ?_)
     try dsimp only [List.drop_succ_cons, List.drop_zero, List.take_succ_cons, List.take_zero]
     simp only [go_sem, hb1]
     repeat with_reducible refine zN ?_
     refine hK10 _ ?_
     refine adops_nil ?_
     refine athen_n ?_
     refine zV [(1, .sl (.pair (.int .i64) (.pair (.int .i64) (.pair (.int .i64) (.int .i64)))) deeds), (5, .bp 40000 0), (6, .int .i64 (1 + (shape.1 % 4))), (7, .int .i64 (1 + (shape.2 % 4)))] [(40000, .box 71 (.int .i64 (1 + (shape.1 % 4)) :: (.int .i64 (1 + (shape.2 % 4)) :: (cellsX T63 v0_4.1 ++ (cellsX T65 v0_4.2.1 ++ (cellsX T69 v0_4.2.2))))))] gt ?_
     as_aux_lemma =>
      refine AW.have1 (fun _ : Unit => lineallaw06_HazardLists_k1 = some r) (fun _ => ⟨fr [], hpGet [], gt⟩) (fun _ h => ?_) (fun hk_lineallaw06_HazardLists_k1 => ?_)
      ·as_aux_lemma =>
        unfold lineallaw06_HazardLists_k1 at h
        refine zo ?_
        obtain ⟨v0_18, hv14, h⟩ := Option.bind_eq_some_iff.1 h
        refine zC [] [] (hc_lineallaw06_Sane hv14) [(186, .bool v0_18)] [] ?_
        refine zB [(4, .bool v0_18)] [] ?_
        refine AW.ret ?_
        obtain rfl := Option.some.inj h
        exact zR [] [] []
      ·refine AW.seq ?_
       refine zo ?_
       refine zB [(1, .sl (.pair (.int .i64) (.pair (.int .i64) (.pair (.int .i64) (.int .i64)))) deeds), (5, .bp 40000 0), (6, .int .i64 (1 + (shape.1 % 4))), (7, .int .i64 (1 + (shape.2 % 4))), (8, .int .i64 0)] [(40000, .box 71 (.int .i64 (1 + (shape.1 % 4)) :: (.int .i64 (1 + (shape.2 % 4)) :: (cellsX T63 v0_4.1 ++ (cellsX T65 v0_4.2.1 ++ (cellsX T69 v0_4.2.2))))))] ?_
       refine AW.block ?_
       obtain ⟨rv19, hw15, ho16⟩ := Option.bind_eq_some_iff.1 h
       refine AW.loopO (lineallaw06_HazardLists_b1 shape deeds) (fun st1 => ⟨fr [(1, .sl (.pair (.int .i64) (.pair (.int .i64) (.pair (.int .i64) (.int .i64)))) deeds), (5, .bp 40000 0), (6, .int .i64 (1 + (shape.1 % 4))), (7, .int .i64 (1 + (shape.2 % 4))), (8, .int .i64 st1.2.2.2)], hpGet [(40000, .box 71 (.int .i64 (1 + (shape.1 % 4)) :: (.int .i64 (1 + (shape.2 % 4)) :: (cellsX T63 st1.1 ++ (cellsX T65 st1.2.1 ++ (cellsX T69 st1.2.2.1))))))], gt⟩) (v0_4.1, v0_4.2.1, v0_4.2.2, 0) hw15 (zL [] [] []) ?_
       as_aux_lemma =>
        intro st1 x18 h hd17
        unfold lineallaw06_HazardLists_b1 at h
        refine AW.seq ?_
        refine zo ?_
        refine zB [(1, .sl (.pair (.int .i64) (.pair (.int .i64) (.pair (.int .i64) (.int .i64)))) deeds), (5, .bp 40000 0), (6, .int .i64 (1 + (shape.1 % 4))), (7, .int .i64 (1 + (shape.2 % 4))), (8, .int .i64 st1.2.2.2), (46, .bool (decide (st1.2.2.2 < (deeds.length : Int))))] [(40000, .box 71 (.int .i64 (1 + (shape.1 % 4)) :: (.int .i64 (1 + (shape.2 % 4)) :: (cellsX T63 st1.1 ++ (cellsX T65 st1.2.1 ++ (cellsX T69 st1.2.2.1))))))] ?_
        refine zQ h (fun hb20 h => ?_) (fun hb20 h => ?_)
        ·refine zk ?_
         refine AW.have1 (fun b6_2 : (El T63) × (El T65) × (El T69) => lineallaw06_HazardLists_k2 st1 b6_2 = some x18) (fun b6_2 => ⟨fr [(1, .sl (.pair (.int .i64) (.pair (.int .i64) (.pair (.int .i64) (.int .i64)))) deeds), (5, .bp 40000 0), (6, .int .i64 (1 + (shape.1 % 4))), (7, .int .i64 (1 + (shape.2 % 4))), (8, .int .i64 st1.2.2.2)], hpGet [(40000, .box 71 (.int .i64 (1 + (shape.1 % 4)) :: (.int .i64 (1 + (shape.2 % 4)) :: (cellsX T63 b6_2.1 ++ (cellsX T65 b6_2.2.1 ++ (cellsX T69 b6_2.2.2))))))], gt⟩) (fun b6_2 h => ?_) (fun hk_lineallaw06_HazardLists_k2 => ?_)
         ·as_aux_lemma =>
           unfold lineallaw06_HazardLists_k2 at h
           refine AW.ops ?_
           obtain ⟨c21, h⟩ := ck_some.1 h
           refine zA [(1, .sl (.pair (.int .i64) (.pair (.int .i64) (.pair (.int .i64) (.int .i64)))) deeds), (5, .bp 40000 0), (6, .int .i64 (1 + (shape.1 % 4))), (7, .int .i64 (1 + (shape.2 % 4))), (8, .int .i64 (st1.2.2.2 + 1))] [(40000, .box 71 (.int .i64 (1 + (shape.1 % 4)) :: (.int .i64 (1 + (shape.2 % 4)) :: (cellsX T63 b6_2.1 ++ (cellsX T65 b6_2.2.1 ++ (cellsX T69 b6_2.2.2))))))] ?_
           obtain rfl := Option.some.inj h
           exact ⟨_, rfl, zL [] [] []⟩
         ·refine AW.seq ?_
          refine AW.block ?_
          refine zo ?_
          obtain ⟨c22, h⟩ := ck_some.1 h
          obtain ⟨c23, h⟩ := ck_some.1 h
          refine zS 5 [(1, .sl (.pair (.int .i64) (.pair (.int .i64) (.pair (.int .i64) (.int .i64)))) deeds), (5, .bp 40000 0), (6, .int .i64 (1 + (shape.1 % 4))), (7, .int .i64 (1 + (shape.2 % 4))), (8, .int .i64 st1.2.2.2), (9, .bp 9 0), (52, .agg [.int .i64 (deeds.getD st1.2.2.2.toNat (0, 0, 0, 0)).1, .int .i64 (deeds.getD st1.2.2.2.toNat (0, 0, 0, 0)).2.1, .int .i64 (deeds.getD st1.2.2.2.toNat (0, 0, 0, 0)).2.2.1, .int .i64 (deeds.getD st1.2.2.2.toNat (0, 0, 0, 0)).2.2.2])] [(9, .box 33 [.int .i64 0, .int .i64 0, .int .i64 0, .int .i64 0]), (40000, .box 71 (.int .i64 (1 + (shape.1 % 4)) :: (.int .i64 (1 + (shape.2 % 4)) :: (cellsX T63 st1.1 ++ (cellsX T65 st1.2.1 ++ (cellsX T69 st1.2.2.1))))))] ?_
          refine zB [(1, .sl (.pair (.int .i64) (.pair (.int .i64) (.pair (.int .i64) (.int .i64)))) deeds), (5, .bp 40000 0), (6, .int .i64 (1 + (shape.1 % 4))), (7, .int .i64 (1 + (shape.2 % 4))), (8, .int .i64 st1.2.2.2), (9, .bp 9 0)] [(9, .box 33 [.int .i64 (deeds.getD st1.2.2.2.toNat (0, 0, 0, 0)).1, .int .i64 (deeds.getD st1.2.2.2.toNat (0, 0, 0, 0)).2.1, .int .i64 (deeds.getD st1.2.2.2.toNat (0, 0, 0, 0)).2.2.1, .int .i64 (deeds.getD st1.2.2.2.toNat (0, 0, 0, 0)).2.2.2]), (40000, .box 71 (.int .i64 (1 + (shape.1 % 4)) :: (.int .i64 (1 + (shape.2 % 4)) :: (cellsX T63 st1.1 ++ (cellsX T65 st1.2.1 ++ (cellsX T69 st1.2.2.1))))))] ?_
          refine zo ?_
          refine zS 2 [(1, .sl (.pair (.int .i64) (.pair (.int .i64) (.pair (.int .i64) (.int .i64)))) deeds), (5, .bp 40000 0), (6, .int .i64 (1 + (shape.1 % 4))), (7, .int .i64 (1 + (shape.2 % 4))), (8, .int .i64 st1.2.2.2), (9, .bp 9 0), (54, .bp 40000 0), (55, .agg [.int .i64 (deeds.getD st1.2.2.2.toNat (0, 0, 0, 0)).1, .int .i64 (deeds.getD st1.2.2.2.toNat (0, 0, 0, 0)).2.1, .int .i64 (deeds.getD st1.2.2.2.toNat (0, 0, 0, 0)).2.2.1, .int .i64 (deeds.getD st1.2.2.2.toNat (0, 0, 0, 0)).2.2.2])] [(9, .box 33 [.int .i64 (deeds.getD st1.2.2.2.toNat (0, 0, 0, 0)).1, .int .i64 (deeds.getD st1.2.2.2.toNat (0, 0, 0, 0)).2.1, .int .i64 (deeds.getD st1.2.2.2.toNat (0, 0, 0, 0)).2.2.1, .int .i64 (deeds.getD st1.2.2.2.toNat (0, 0, 0, 0)).2.2.2]), (40000, .box 71 (.int .i64 (1 + (shape.1 % 4)) :: (.int .i64 (1 + (shape.2 % 4)) :: (cellsX T63 st1.1 ++ (cellsX T65 st1.2.1 ++ (cellsX T69 st1.2.2.1))))))] ?_
          obtain ⟨v0_5, hv24, h⟩ := Option.bind_eq_some_iff.1 h
          refine zC [] [(1000, 40000)] (hc_hazard_Yard_Do (deeds.getD st1.2.2.2.toNat (0, 0, 0, 0)) ((1 + (shape.1 % 4)), (1 + (shape.2 % 4)), st1.1, st1.2.1, st1.2.2.1) hv24) [(1, .sl (.pair (.int .i64) (.pair (.int .i64) (.pair (.int .i64) (.int .i64)))) deeds), (5, .bp 40000 0), (6, .int .i64 (1 + (shape.1 % 4))), (7, .int .i64 (1 + (shape.2 % 4))), (8, .int .i64 st1.2.2.2), (9, .bp 9 0), (56, .tup [.int .i64 v0_5.1, .int .i64 v0_5.2.1])] [(9, .box 33 [.int .i64 (deeds.getD st1.2.2.2.toNat (0, 0, 0, 0)).1, .int .i64 (deeds.getD st1.2.2.2.toNat (0, 0, 0, 0)).2.1, .int .i64 (deeds.getD st1.2.2.2.toNat (0, 0, 0, 0)).2.2.1, .int .i64 (deeds.getD st1.2.2.2.toNat (0, 0, 0, 0)).2.2.2]), (40000, .box 71 (.int .i64 (1 + (shape.1 % 4)) :: (.int .i64 (1 + (shape.2 % 4)) :: (cellsX T63 v0_5.2.2.1 ++ (cellsX T65 v0_5.2.2.2.1 ++ (cellsX T69 v0_5.2.2.2.2))))))] ?_
          refine zB [(1, .sl (.pair (.int .i64) (.pair (.int .i64) (.pair (.int .i64) (.int .i64)))) deeds), (5, .bp 40000 0), (6, .int .i64 (1 + (shape.1 % 4))), (7, .int .i64 (1 + (shape.2 % 4))), (8, .int .i64 st1.2.2.2), (9, .bp 9 0), (11, .int .i64 v0_5.2.1)] [(9, .box 33 [.int .i64 (deeds.getD st1.2.2.2.toNat (0, 0, 0, 0)).1, .int .i64 (deeds.getD st1.2.2.2.toNat (0, 0, 0, 0)).2.1, .int .i64 (deeds.getD st1.2.2.2.toNat (0, 0, 0, 0)).2.2.1, .int .i64 (deeds.getD st1.2.2.2.toNat (0, 0, 0, 0)).2.2.2]), (40000, .box 71 (.int .i64 (1 + (shape.1 % 4)) :: (.int .i64 (1 + (shape.2 % 4)) :: (cellsX T63 v0_5.2.2.1 ++ (cellsX T65 v0_5.2.2.2.1 ++ (cellsX T69 v0_5.2.2.2.2))))))] ?_
          refine zo ?_
          refine zB [(1, .sl (.pair (.int .i64) (.pair (.int .i64) (.pair (.int .i64) (.int .i64)))) deeds), (5, .bp 40000 0), (6, .int .i64 (1 + (shape.1 % 4))), (7, .int .i64 (1 + (shape.2 % 4))), (8, .int .i64 st1.2.2.2), (9, .bp 9 0), (11, .int .i64 v0_5.2.1), (12, .cv (.slice none 0 0))] [(9, .box 33 [.int .i64 (deeds.getD st1.2.2.2.toNat (0, 0, 0, 0)).1, .int .i64 (deeds.getD st1.2.2.2.toNat (0, 0, 0, 0)).2.1, .int .i64 (deeds.getD st1.2.2.2.toNat (0, 0, 0, 0)).2.2.1, .int .i64 (deeds.getD st1.2.2.2.toNat (0, 0, 0, 0)).2.2.2]), (40000, .box 71 (.int .i64 (1 + (shape.1 % 4)) :: (.int .i64 (1 + (shape.2 % 4)) :: (cellsX T63 v0_5.2.2.1 ++ (cellsX T65 v0_5.2.2.2.1 ++ (cellsX T69 v0_5.2.2.2.2))))))] ?_
          refine AW.have1 (fun b5_3 : (List Int) => lineallaw06_HazardLists_k3 shape st1 v0_5 b5_3 = some x18) (fun b5_3 => ⟨fr [(1, .sl (.pair (.int .i64) (.pair (.int .i64) (.pair (.int .i64) (.int .i64)))) deeds), (5, .bp 40000 0), (6, .int .i64 (1 + (shape.1 % 4))), (7, .int .i64 (1 + (shape.2 % 4))), (8, .int .i64 st1.2.2.2), (12, .own 107)], hpGet [(107, .arr 3 (.int .i64) b5_3), (40000, .box 71 (.int .i64 (1 + (shape.1 % 4)) :: (.int .i64 (1 + (shape.2 % 4)) :: (cellsX T63 v0_5.2.2.1 ++ (cellsX T65 v0_5.2.2.2.1 ++ (cellsX T69 v0_5.2.2.2.2))))))], gt⟩) (fun b5_3 h => ?_) (fun hk_lineallaw06_HazardLists_k3 => ?_)
          ·as_aux_lemma =>
            unfold lineallaw06_HazardLists_k3 at h
            refine zo ?_
            refine zB [(1, .sl (.pair (.int .i64) (.pair (.int .i64) (.pair (.int .i64) (.int .i64)))) deeds), (5, .bp 40000 0), (6, .int .i64 (1 + (shape.1 % 4))), (7, .int .i64 (1 + (shape.2 % 4))), (8, .int .i64 st1.2.2.2), (12, .own 107), (21, .int .i64 0)] [(107, .arr 3 (.int .i64) b5_3), (40000, .box 71 (.int .i64 (1 + (shape.1 % 4)) :: (.int .i64 (1 + (shape.2 % 4)) :: (cellsX T63 v0_5.2.2.1 ++ (cellsX T65 v0_5.2.2.2.1 ++ (cellsX T69 v0_5.2.2.2.2))))))] ?_
            refine AW.have1 (fun b6 : Int => lineallaw06_HazardLists_k6 shape st1 v0_5 b5_3 b6 = some x18) (fun b6 => ⟨fr [(1, .sl (.pair (.int .i64) (.pair (.int .i64) (.pair (.int .i64) (.int .i64)))) deeds), (5, .bp 40000 0), (6, .int .i64 (1 + (shape.1 % 4))), (7, .int .i64 (1 + (shape.2 % 4))), (8, .int .i64 st1.2.2.2), (12, .own 107), (21, .int .i64 b6)], hpGet [(107, .arr 3 (.int .i64) b5_3), (40000, .box 71 (.int .i64 (1 + (shape.1 % 4)) :: (.int .i64 (1 + (shape.2 % 4)) :: (cellsX T63 v0_5.2.2.1 ++ (cellsX T65 v0_5.2.2.2.1 ++ (cellsX T69 v0_5.2.2.2.2))))))], gt⟩) (fun b6 h => ?_) (fun hk_lineallaw06_HazardLists_k6 => ?_)
            ·as_aux_lemma =>
              unfold lineallaw06_HazardLists_k6 at h
              refine zo ?_
              refine zS 1 [(1, .sl (.pair (.int .i64) (.pair (.int .i64) (.pair (.int .i64) (.int .i64)))) deeds), (5, .bp 40000 0), (6, .int .i64 (1 + (shape.1 % 4))), (7, .int .i64 (1 + (shape.2 % 4))), (8, .int .i64 st1.2.2.2), (12, .own 107), (21, .int .i64 b6), (171, .bp 40000 0)] [(107, .arr 3 (.int .i64) b5_3), (40000, .box 71 (.int .i64 (1 + (shape.1 % 4)) :: (.int .i64 (1 + (shape.2 % 4)) :: (cellsX T63 v0_5.2.2.1 ++ (cellsX T65 v0_5.2.2.2.1 ++ (cellsX T69 v0_5.2.2.2.2))))))] ?_
              obtain ⟨v0_15, hv25, h⟩ := Option.bind_eq_some_iff.1 h
              refine zC [] [(1000, 40000)] (hc_hazard_Yard_By ((1 + (shape.1 % 4)), (1 + (shape.2 % 4)), v0_5.2.2) hv25) [(1, .sl (.pair (.int .i64) (.pair (.int .i64) (.pair (.int .i64) (.int .i64)))) deeds), (5, .bp 40000 0), (6, .int .i64 (1 + (shape.1 % 4))), (7, .int .i64 (1 + (shape.2 % 4))), (8, .int .i64 st1.2.2.2), (12, .own 107), (21, .int .i64 b6), (172, .int .i64 v0_15)] [(107, .arr 3 (.int .i64) b5_3), (40000, .box 71 (.int .i64 (1 + (shape.1 % 4)) :: (.int .i64 (1 + (shape.2 % 4)) :: (cellsX T63 v0_5.2.2.1 ++ (cellsX T65 v0_5.2.2.2.1 ++ (cellsX T69 v0_5.2.2.2.2))))))] ?_
              refine zS 4 [(1, .sl (.pair (.int .i64) (.pair (.int .i64) (.pair (.int .i64) (.int .i64)))) deeds), (5, .bp 40000 0), (6, .int .i64 (1 + (shape.1 % 4))), (7, .int .i64 (1 + (shape.2 % 4))), (8, .int .i64 st1.2.2.2), (21, .int .i64 b6), (176, .bool (!(decide (v0_15 = (b5_3.length : Int)))))] [(40000, .box 71 (.int .i64 (1 + (shape.1 % 4)) :: (.int .i64 (1 + (shape.2 % 4)) :: (cellsX T63 v0_5.2.2.1 ++ (cellsX T65 v0_5.2.2.2.1 ++ (cellsX T69 v0_5.2.2.2.2))))))] ?_
              rcases zI h with ⟨hb26, h⟩ | ⟨hb26, h⟩
              ·refine zS 4 [(1, .sl (.pair (.int .i64) (.pair (.int .i64) (.pair (.int .i64) (.int .i64)))) deeds), (5, .bp 40000 0), (6, .int .i64 (1 + (shape.1 % 4))), (7, .int .i64 (1 + (shape.2 % 4))), (8, .int .i64 st1.2.2.2), (21, .int .i64 b6), (176, .bool true), (178, .cv (undef)), (180, .cv (undef))] [(40000, .box 71 (.int .i64 (1 + (shape.1 % 4)) :: (.int .i64 (1 + (shape.2 % 4)) :: (cellsX T63 v0_5.2.2.1 ++ (cellsX T65 v0_5.2.2.2.1 ++ (cellsX T69 v0_5.2.2.2.2))))))] ?_
               refine zS 4 [(1, .sl (.pair (.int .i64) (.pair (.int .i64) (.pair (.int .i64) (.int .i64)))) deeds), (5, .bp 40000 0), (6, .int .i64 (1 + (shape.1 % 4))), (7, .int .i64 (1 + (shape.2 % 4))), (8, .int .i64 st1.2.2.2), (176, .bool true), (184, .cv (undef))] [(40000, .box 71 (.int .i64 (1 + (shape.1 % 4)) :: (.int .i64 (1 + (shape.2 % 4)) :: (cellsX T63 v0_5.2.2.1 ++ (cellsX T65 v0_5.2.2.2.1 ++ (cellsX T69 v0_5.2.2.2.2))))))] ?_
               refine zB [(1, .sl (.pair (.int .i64) (.pair (.int .i64) (.pair (.int .i64) (.int .i64)))) deeds), (5, .bp 40000 0), (6, .int .i64 (1 + (shape.1 % 4))), (7, .int .i64 (1 + (shape.2 % 4))), (8, .int .i64 st1.2.2.2), (185, .bool true)] [(40000, .box 71 (.int .i64 (1 + (shape.1 % 4)) :: (.int .i64 (1 + (shape.2 % 4)) :: (cellsX T63 v0_5.2.2.1 ++ (cellsX T65 v0_5.2.2.2.1 ++ (cellsX T69 v0_5.2.2.2.2))))))] ?_
               refine AW.cond (b := true) rfl (fun _ => ?_) (fun hb27 => by cases hb27)
               refine zo ?_
               refine zB [(4, .bool false)] [] ?_
               refine AW.ret ?_
               refine ablock_r ?_
               refine athen_r ?_
               obtain rfl := Option.some.inj h
               try rw [← hd17 _ rfl] at ho16
               have h := ho16
               try simp only at h
               refine athen_r ?_
               refine ablock_r ?_
               refine athen_r ?_
               obtain rfl := Option.some.inj h
               exact zR [] [] []
              ·refine zS 1 [(1, .sl (.pair (.int .i64) (.pair (.int .i64) (.pair (.int .i64) (.int .i64)))) deeds), (5, .bp 40000 0), (6, .int .i64 (1 + (shape.1 % 4))), (7, .int .i64 (1 + (shape.2 % 4))), (8, .int .i64 st1.2.2.2), (21, .int .i64 b6), (176, .bool false), (177, .bp 40000 0)] [(40000, .box 71 (.int .i64 (1 + (shape.1 % 4)) :: (.int .i64 (1 + (shape.2 % 4)) :: (cellsX T63 v0_5.2.2.1 ++ (cellsX T65 v0_5.2.2.2.1 ++ (cellsX T69 v0_5.2.2.2.2))))))] ?_
               obtain ⟨v0_16, hv28, h⟩ := Option.bind_eq_some_iff.1 h
               refine zG [] [(1000, 40000)] (hc_hazard_Yard_Free ((1 + (shape.1 % 4)), (1 + (shape.2 % 4)), v0_5.2.2) hv28) [(1, .sl (.pair (.int .i64) (.pair (.int .i64) (.pair (.int .i64) (.int .i64)))) deeds), (5, .bp 40000 0), (6, .int .i64 (1 + (shape.1 % 4))), (7, .int .i64 (1 + (shape.2 % 4))), (8, .int .i64 st1.2.2.2), (21, .int .i64 b6), (176, .bool false), (178, .int .i64 v0_16)] [(40000, .box 71 (.int .i64 (1 + (shape.1 % 4)) :: (.int .i64 (1 + (shape.2 % 4)) :: (cellsX T63 v0_5.2.2.1 ++ (cellsX T65 v0_5.2.2.2.1 ++ (cellsX T69 v0_5.2.2.2.2))))))] ?_
               refine zS 1 [(1, .sl (.pair (.int .i64) (.pair (.int .i64) (.pair (.int .i64) (.int .i64)))) deeds), (5, .bp 40000 0), (6, .int .i64 (1 + (shape.1 % 4))), (7, .int .i64 (1 + (shape.2 % 4))), (8, .int .i64 st1.2.2.2), (21, .int .i64 b6), (176, .bool false), (178, .int .i64 v0_16), (179, .bp 40000 0)] [(40000, .box 71 (.int .i64 (1 + (shape.1 % 4)) :: (.int .i64 (1 + (shape.2 % 4)) :: (cellsX T63 v0_5.2.2.1 ++ (cellsX T65 v0_5.2.2.2.1 ++ (cellsX T69 v0_5.2.2.2.2))))))] ?_
               obtain ⟨v0_17, hv29, h⟩ := Option.bind_eq_some_iff.1 h
               refine zG [] [(1000, 40000)] (hc_hazard_Yard_By ((1 + (shape.1 % 4)), (1 + (shape.2 % 4)), v0_5.2.2) hv29) [(1, .sl (.pair (.int .i64) (.pair (.int .i64) (.pair (.int .i64) (.int .i64)))) deeds), (5, .bp 40000 0), (6, .int .i64 (1 + (shape.1 % 4))), (7, .int .i64 (1 + (shape.2 % 4))), (8, .int .i64 st1.2.2.2), (21, .int .i64 b6), (176, .bool false), (178, .int .i64 v0_16), (180, .int .i64 v0_17)] [(40000, .box 71 (.int .i64 (1 + (shape.1 % 4)) :: (.int .i64 (1 + (shape.2 % 4)) :: (cellsX T63 v0_5.2.2.1 ++ (cellsX T65 v0_5.2.2.2.1 ++ (cellsX T69 v0_5.2.2.2.2))))))] ?_
               obtain ⟨c30, h⟩ := ck_some.1 h
               obtain ⟨c31, h⟩ := ck_some.1 h
               refine zB [(1, .sl (.pair (.int .i64) (.pair (.int .i64) (.pair (.int .i64) (.int .i64)))) deeds), (5, .bp 40000 0), (6, .int .i64 (1 + (shape.1 % 4))), (7, .int .i64 (1 + (shape.2 % 4))), (8, .int .i64 st1.2.2.2), (185, .bool (!(decide (((v0_16 + v0_17) + b6) = 8))))] [(40000, .box 71 (.int .i64 (1 + (shape.1 % 4)) :: (.int .i64 (1 + (shape.2 % 4)) :: (cellsX T63 v0_5.2.2.1 ++ (cellsX T65 v0_5.2.2.2.1 ++ (cellsX T69 v0_5.2.2.2.2))))))] ?_
               refine zQ h (fun hb32 h => ?_) (fun hb32 h => ?_)
               ·refine zo ?_
                refine zB [(4, .bool false)] [] ?_
                refine AW.ret ?_
                refine ablock_r ?_
                refine athen_r ?_
                obtain rfl := Option.some.inj h
                try rw [← hd17 _ rfl] at ho16
                have h := ho16
                try simp only at h
                refine athen_r ?_
                refine ablock_r ?_
                refine athen_r ?_
                obtain rfl := Option.some.inj h
                exact zR [] [] []
               ·refine zm ?_
                refine athen_n ?_
                exact AW.weaken (zL [] [] []) (hk_lineallaw06_HazardLists_k2 _ h)
            ·refine AW.seq ?_
             refine zo ?_
             refine zB [(1, .sl (.pair (.int .i64) (.pair (.int .i64) (.pair (.int .i64) (.int .i64)))) deeds), (5, .bp 40000 0), (6, .int .i64 (1 + (shape.1 % 4))), (7, .int .i64 (1 + (shape.2 % 4))), (8, .int .i64 st1.2.2.2), (12, .own 107), (21, .int .i64 0), (22, .int .i64 0)] [(107, .arr 3 (.int .i64) b5_3), (40000, .box 71 (.int .i64 (1 + (shape.1 % 4)) :: (.int .i64 (1 + (shape.2 % 4)) :: (cellsX T63 v0_5.2.2.1 ++ (cellsX T65 v0_5.2.2.2.1 ++ (cellsX T69 v0_5.2.2.2.2))))))] ?_
             refine AW.block ?_
             obtain ⟨rv37, hw33, ho34⟩ := Option.bind_eq_some_iff.1 h
             refine AW.loopO (lineallaw06_HazardLists_b6 shape v0_5 b5_3) (fun st6 => ⟨fr [(1, .sl (.pair (.int .i64) (.pair (.int .i64) (.pair (.int .i64) (.int .i64)))) deeds), (5, .bp 40000 0), (6, .int .i64 (1 + (shape.1 % 4))), (7, .int .i64 (1 + (shape.2 % 4))), (8, .int .i64 st1.2.2.2), (12, .own 107), (21, .int .i64 st6.1), (22, .int .i64 st6.2)], hpGet [(107, .arr 3 (.int .i64) b5_3), (40000, .box 71 (.int .i64 (1 + (shape.1 % 4)) :: (.int .i64 (1 + (shape.2 % 4)) :: (cellsX T63 v0_5.2.2.1 ++ (cellsX T65 v0_5.2.2.2.1 ++ (cellsX T69 v0_5.2.2.2.2))))))], gt⟩) (0, 0) hw33 (zL [] [] []) ?_
             as_aux_lemma =>
              intro st6 x36 h hd35
              unfold lineallaw06_HazardLists_b6 at h
              refine AW.seq ?_
              refine zo ?_
              refine zB [(1, .sl (.pair (.int .i64) (.pair (.int .i64) (.pair (.int .i64) (.int .i64)))) deeds), (5, .bp 40000 0), (6, .int .i64 (1 + (shape.1 % 4))), (7, .int .i64 (1 + (shape.2 % 4))), (8, .int .i64 st1.2.2.2), (12, .own 107), (21, .int .i64 st6.1), (22, .int .i64 st6.2), (148, .bool (decide (st6.2 < 8)))] [(107, .arr 3 (.int .i64) b5_3), (40000, .box 71 (.int .i64 (1 + (shape.1 % 4)) :: (.int .i64 (1 + (shape.2 % 4)) :: (cellsX T63 v0_5.2.2.1 ++ (cellsX T65 v0_5.2.2.2.1 ++ (cellsX T69 v0_5.2.2.2.2))))))] ?_
              refine zQ h (fun hb38 h => ?_) (fun hb38 h => ?_)
              ·refine zk ?_
               refine AW.seq ?_
               refine AW.block ?_
               refine zo ?_
               refine zS 2 [(1, .sl (.pair (.int .i64) (.pair (.int .i64) (.pair (.int .i64) (.int .i64)))) deeds), (5, .bp 40000 0), (6, .int .i64 (1 + (shape.1 % 4))), (7, .int .i64 (1 + (shape.2 % 4))), (8, .int .i64 st1.2.2.2), (12, .own 107), (21, .int .i64 st6.1), (22, .int .i64 st6.2), (152, .bp 40000 0), (153, .int .i64 st6.2)] [(107, .arr 3 (.int .i64) b5_3), (40000, .box 71 (.int .i64 (1 + (shape.1 % 4)) :: (.int .i64 (1 + (shape.2 % 4)) :: (cellsX T63 v0_5.2.2.1 ++ (cellsX T65 v0_5.2.2.2.1 ++ (cellsX T69 v0_5.2.2.2.2))))))] ?_
               obtain ⟨v0_13, hv39, h⟩ := Option.bind_eq_some_iff.1 h
               refine zC [] [(1000, 40000)] (hc_hazard_Yard_State st6.2 ((1 + (shape.1 % 4)), (1 + (shape.2 % 4)), v0_5.2.2) hv39) [(1, .sl (.pair (.int .i64) (.pair (.int .i64) (.pair (.int .i64) (.int .i64)))) deeds), (5, .bp 40000 0), (6, .int .i64 (1 + (shape.1 % 4))), (7, .int .i64 (1 + (shape.2 % 4))), (8, .int .i64 st1.2.2.2), (12, .own 107), (21, .int .i64 st6.1), (22, .int .i64 st6.2), (154, .tup [.int .i64 v0_13.1, .int .i64 v0_13.2])] [(107, .arr 3 (.int .i64) b5_3), (40000, .box 71 (.int .i64 (1 + (shape.1 % 4)) :: (.int .i64 (1 + (shape.2 % 4)) :: (cellsX T63 v0_5.2.2.1 ++ (cellsX T65 v0_5.2.2.2.1 ++ (cellsX T69 v0_5.2.2.2.2))))))] ?_
               refine zB [(1, .sl (.pair (.int .i64) (.pair (.int .i64) (.pair (.int .i64) (.int .i64)))) deeds), (5, .bp 40000 0), (6, .int .i64 (1 + (shape.1 % 4))), (7, .int .i64 (1 + (shape.2 % 4))), (8, .int .i64 st1.2.2.2), (12, .own 107), (21, .int .i64 st6.1), (22, .int .i64 st6.2), (23, .int .i64 v0_13.1), (24, .int .i64 v0_13.2)] [(107, .arr 3 (.int .i64) b5_3), (40000, .box 71 (.int .i64 (1 + (shape.1 % 4)) :: (.int .i64 (1 + (shape.2 % 4)) :: (cellsX T63 v0_5.2.2.1 ++ (cellsX T65 v0_5.2.2.2.1 ++ (cellsX T69 v0_5.2.2.2.2))))))] ?_
               refine AW.seq ?_
               refine zo ?_
               refine zS 3 [(1, .sl (.pair (.int .i64) (.pair (.int .i64) (.pair (.int .i64) (.int .i64)))) deeds), (5, .bp 40000 0), (6, .int .i64 (1 + (shape.1 % 4))), (7, .int .i64 (1 + (shape.2 % 4))), (8, .int .i64 st1.2.2.2), (12, .own 107), (21, .int .i64 st6.1), (22, .int .i64 st6.2), (23, .int .i64 v0_13.1), (159, .bool (!(decide (v0_13.2 = 0))))] [(107, .arr 3 (.int .i64) b5_3), (40000, .box 71 (.int .i64 (1 + (shape.1 % 4)) :: (.int .i64 (1 + (shape.2 % 4)) :: (cellsX T63 v0_5.2.2.1 ++ (cellsX T65 v0_5.2.2.2.1 ++ (cellsX T69 v0_5.2.2.2.2))))))] ?_
               rcases zI h with ⟨hb40, h⟩ | ⟨hb40, h⟩
               ·refine zS 4 [(1, .sl (.pair (.int .i64) (.pair (.int .i64) (.pair (.int .i64) (.int .i64)))) deeds), (5, .bp 40000 0), (6, .int .i64 (1 + (shape.1 % 4))), (7, .int .i64 (1 + (shape.2 % 4))), (8, .int .i64 st1.2.2.2), (12, .own 107), (21, .int .i64 st6.1), (22, .int .i64 st6.2), (23, .int .i64 v0_13.1), (159, .bool true), (161, .cv (undef)), (162, .cv (undef)), (163, .cv (undef))] [(107, .arr 3 (.int .i64) b5_3), (40000, .box 71 (.int .i64 (1 + (shape.1 % 4)) :: (.int .i64 (1 + (shape.2 % 4)) :: (cellsX T63 v0_5.2.2.1 ++ (cellsX T65 v0_5.2.2.2.1 ++ (cellsX T69 v0_5.2.2.2.2))))))] ?_
                refine zB [(1, .sl (.pair (.int .i64) (.pair (.int .i64) (.pair (.int .i64) (.int .i64)))) deeds), (5, .bp 40000 0), (6, .int .i64 (1 + (shape.1 % 4))), (7, .int .i64 (1 + (shape.2 % 4))), (8, .int .i64 st1.2.2.2), (12, .own 107), (21, .int .i64 st6.1), (22, .int .i64 st6.2), (23, .int .i64 v0_13.1), (166, .bool true)] [(107, .arr 3 (.int .i64) b5_3), (40000, .box 71 (.int .i64 (1 + (shape.1 % 4)) :: (.int .i64 (1 + (shape.2 % 4)) :: (cellsX T63 v0_5.2.2.1 ++ (cellsX T65 v0_5.2.2.2.1 ++ (cellsX T69 v0_5.2.2.2.2))))))] ?_
                refine AW.cond (b := true) rfl (fun _ => ?_) (fun hb41 => by cases hb41)
                refine zo ?_
                refine zB [(4, .bool false)] [] ?_
                refine zr ?_
                refine ablock_r ?_
                refine athen_r ?_
                obtain rfl := Option.some.inj h
                try rw [← hd35 _ rfl] at ho34
                have h := ho34
                try simp only at h
                refine athen_r ?_
                refine ablock_r ?_
                refine athen_r ?_
                refine ablock_r ?_
                refine athen_r ?_
                obtain rfl := Option.some.inj h
                try rw [← hd17 _ rfl] at ho16
                have h := ho16
                try simp only at h
                refine athen_r ?_
                refine ablock_r ?_
                refine athen_r ?_
                obtain rfl := Option.some.inj h
                exact zR [] [] []
               ·refine zS 4 [(1, .sl (.pair (.int .i64) (.pair (.int .i64) (.pair (.int .i64) (.int .i64)))) deeds), (5, .bp 40000 0), (6, .int .i64 (1 + (shape.1 % 4))), (7, .int .i64 (1 + (shape.2 % 4))), (8, .int .i64 st1.2.2.2), (12, .own 107), (21, .int .i64 st6.1), (22, .int .i64 st6.2), (23, .int .i64 v0_13.1), (159, .bool false), (161, .bool (decide (v0_13.1 = 2))), (162, .own 107), (163, .int .i64 st6.2)] [(107, .arr 3 (.int .i64) b5_3), (40000, .box 71 (.int .i64 (1 + (shape.1 % 4)) :: (.int .i64 (1 + (shape.2 % 4)) :: (cellsX T63 v0_5.2.2.1 ++ (cellsX T65 v0_5.2.2.2.1 ++ (cellsX T69 v0_5.2.2.2.2))))))] ?_
                obtain ⟨v0_14, hv42, h⟩ := Option.bind_eq_some_iff.1 h
                refine zG [107] [] (hc_lineallaw06_has b5_3 st6.2 hv42) [(1, .sl (.pair (.int .i64) (.pair (.int .i64) (.pair (.int .i64) (.int .i64)))) deeds), (5, .bp 40000 0), (6, .int .i64 (1 + (shape.1 % 4))), (7, .int .i64 (1 + (shape.2 % 4))), (8, .int .i64 st1.2.2.2), (12, .own 107), (21, .int .i64 st6.1), (22, .int .i64 st6.2), (23, .int .i64 v0_13.1), (159, .bool false), (161, .bool (decide (v0_13.1 = 2))), (164, .bool v0_14)] [(107, .arr 3 (.int .i64) b5_3), (40000, .box 71 (.int .i64 (1 + (shape.1 % 4)) :: (.int .i64 (1 + (shape.2 % 4)) :: (cellsX T63 v0_5.2.2.1 ++ (cellsX T65 v0_5.2.2.2.1 ++ (cellsX T69 v0_5.2.2.2.2))))))] ?_
                refine zB [(1, .sl (.pair (.int .i64) (.pair (.int .i64) (.pair (.int .i64) (.int .i64)))) deeds), (5, .bp 40000 0), (6, .int .i64 (1 + (shape.1 % 4))), (7, .int .i64 (1 + (shape.2 % 4))), (8, .int .i64 st1.2.2.2), (12, .own 107), (21, .int .i64 st6.1), (22, .int .i64 st6.2), (23, .int .i64 v0_13.1), (166, .bool (((decide (v0_13.1 = 2)) == v0_14) != true))] [(107, .arr 3 (.int .i64) b5_3), (40000, .box 71 (.int .i64 (1 + (shape.1 % 4)) :: (.int .i64 (1 + (shape.2 % 4)) :: (cellsX T63 v0_5.2.2.1 ++ (cellsX T65 v0_5.2.2.2.1 ++ (cellsX T69 v0_5.2.2.2.2))))))] ?_
                refine zQ h (fun hb43 h => ?_) (fun hb43 h => ?_)
                ·refine zo ?_
                 refine zB [(4, .bool false)] [] ?_
                 refine zr ?_
                 refine ablock_r ?_
                 refine athen_r ?_
                 obtain rfl := Option.some.inj h
                 try rw [← hd35 _ rfl] at ho34
                 have h := ho34
                 try simp only at h
                 refine athen_r ?_
                 refine ablock_r ?_
                 refine athen_r ?_
                 refine ablock_r ?_
                 refine athen_r ?_
                 obtain rfl := Option.some.inj h
                 try rw [← hd17 _ rfl] at ho16
                 have h := ho16
                 try simp only at h
                 refine athen_r ?_
                 refine ablock_r ?_
                 refine athen_r ?_
                 obtain rfl := Option.some.inj h
                 exact zR [] [] []
                ·refine zk ?_
                 refine zo ?_
                 refine zB [(1, .sl (.pair (.int .i64) (.pair (.int .i64) (.pair (.int .i64) (.int .i64)))) deeds), (5, .bp 40000 0), (6, .int .i64 (1 + (shape.1 % 4))), (7, .int .i64 (1 + (shape.2 % 4))), (8, .int .i64 st1.2.2.2), (12, .own 107), (21, .int .i64 st6.1), (22, .int .i64 st6.2), (168, .bool (decide (v0_13.1 = 1)))] [(107, .arr 3 (.int .i64) b5_3), (40000, .box 71 (.int .i64 (1 + (shape.1 % 4)) :: (.int .i64 (1 + (shape.2 % 4)) :: (cellsX T63 v0_5.2.2.1 ++ (cellsX T65 v0_5.2.2.2.1 ++ (cellsX T69 v0_5.2.2.2.2))))))] ?_
                 refine zQ h (fun hb44 h => ?_) (fun hb44 h => ?_)
                 ·refine AW.ops ?_
                  obtain ⟨c45, h⟩ := ck_some.1 h
                  refine zA [(1, .sl (.pair (.int .i64) (.pair (.int .i64) (.pair (.int .i64) (.int .i64)))) deeds), (5, .bp 40000 0), (6, .int .i64 (1 + (shape.1 % 4))), (7, .int .i64 (1 + (shape.2 % 4))), (8, .int .i64 st1.2.2.2), (12, .own 107), (21, .int .i64 (st6.1 + 1)), (22, .int .i64 st6.2)] [(107, .arr 3 (.int .i64) b5_3), (40000, .box 71 (.int .i64 (1 + (shape.1 % 4)) :: (.int .i64 (1 + (shape.2 % 4)) :: (cellsX T63 v0_5.2.2.1 ++ (cellsX T65 v0_5.2.2.2.1 ++ (cellsX T69 v0_5.2.2.2.2))))))] ?_
                  refine ablock_n ?_
                  refine athen_n ?_
                  refine AW.ops ?_
                  obtain ⟨c46, h⟩ := ck_some.1 h
                  refine zA [(1, .sl (.pair (.int .i64) (.pair (.int .i64) (.pair (.int .i64) (.int .i64)))) deeds), (5, .bp 40000 0), (6, .int .i64 (1 + (shape.1 % 4))), (7, .int .i64 (1 + (shape.2 % 4))), (8, .int .i64 st1.2.2.2), (12, .own 107), (21, .int .i64 (st6.1 + 1)), (22, .int .i64 (st6.2 + 1))] [(107, .arr 3 (.int .i64) b5_3), (40000, .box 71 (.int .i64 (1 + (shape.1 % 4)) :: (.int .i64 (1 + (shape.2 % 4)) :: (cellsX T63 v0_5.2.2.1 ++ (cellsX T65 v0_5.2.2.2.1 ++ (cellsX T69 v0_5.2.2.2.2))))))] ?_
                  obtain rfl := Option.some.inj h
                  exact ⟨_, rfl, zL [] [] []⟩
                 ·refine zm ?_
                  refine athen_n ?_
                  refine AW.ops ?_
                  obtain ⟨c47, h⟩ := ck_some.1 h
                  refine zA [(1, .sl (.pair (.int .i64) (.pair (.int .i64) (.pair (.int .i64) (.int .i64)))) deeds), (5, .bp 40000 0), (6, .int .i64 (1 + (shape.1 % 4))), (7, .int .i64 (1 + (shape.2 % 4))), (8, .int .i64 st1.2.2.2), (12, .own 107), (21, .int .i64 st6.1), (22, .int .i64 (st6.2 + 1))] [(107, .arr 3 (.int .i64) b5_3), (40000, .box 71 (.int .i64 (1 + (shape.1 % 4)) :: (.int .i64 (1 + (shape.2 % 4)) :: (cellsX T63 v0_5.2.2.1 ++ (cellsX T65 v0_5.2.2.2.1 ++ (cellsX T69 v0_5.2.2.2.2))))))] ?_
                  obtain rfl := Option.some.inj h
                  exact ⟨_, rfl, zL [] [] []⟩
              ·refine AW.exit ?_
               refine athen_e ?_
               obtain rfl := Option.some.inj h
               rw [← hd35 _ rfl] at ho34
               have h := ho34
               try simp only at h
               refine athen_e ?_
               refine ablock_s ?_
               refine athen_n ?_
               exact AW.weaken (zL [] [] []) (hk_lineallaw06_HazardLists_k6 _ h)
          ·refine AW.seq ?_
           refine zo ?_
           refine zB [(1, .sl (.pair (.int .i64) (.pair (.int .i64) (.pair (.int .i64) (.int .i64)))) deeds), (5, .bp 40000 0), (6, .int .i64 (1 + (shape.1 % 4))), (7, .int .i64 (1 + (shape.2 % 4))), (8, .int .i64 st1.2.2.2), (9, .bp 9 0), (11, .int .i64 v0_5.2.1), (12, .cv (.slice none 0 0)), (13, .int .i64 0)] [(9, .box 33 [.int .i64 (deeds.getD st1.2.2.2.toNat (0, 0, 0, 0)).1, .int .i64 (deeds.getD st1.2.2.2.toNat (0, 0, 0, 0)).2.1, .int .i64 (deeds.getD st1.2.2.2.toNat (0, 0, 0, 0)).2.2.1, .int .i64 (deeds.getD st1.2.2.2.toNat (0, 0, 0, 0)).2.2.2]), (40000, .box 71 (.int .i64 (1 + (shape.1 % 4)) :: (.int .i64 (1 + (shape.2 % 4)) :: (cellsX T63 v0_5.2.2.1 ++ (cellsX T65 v0_5.2.2.2.1 ++ (cellsX T69 v0_5.2.2.2.2))))))] ?_
           refine AW.block ?_
           obtain ⟨rv52, hw48, ho49⟩ := Option.bind_eq_some_iff.1 h
           refine AW.loopO (lineallaw06_HazardLists_b2 shape deeds st1 v0_5) (fun st2 => ⟨fr [(1, .sl (.pair (.int .i64) (.pair (.int .i64) (.pair (.int .i64) (.int .i64)))) deeds), (5, .bp 40000 0), (6, .int .i64 (1 + (shape.1 % 4))), (7, .int .i64 (1 + (shape.2 % 4))), (8, .int .i64 st1.2.2.2), (9, .bp 9 0), (11, .int .i64 v0_5.2.1), (12, .own 107), (13, .int .i64 st2.2)], hpGet [(9, .box 33 [.int .i64 (deeds.getD st1.2.2.2.toNat (0, 0, 0, 0)).1, .int .i64 (deeds.getD st1.2.2.2.toNat (0, 0, 0, 0)).2.1, .int .i64 (deeds.getD st1.2.2.2.toNat (0, 0, 0, 0)).2.2.1, .int .i64 (deeds.getD st1.2.2.2.toNat (0, 0, 0, 0)).2.2.2]), (107, .arr 3 (.int .i64) st2.1), (40000, .box 71 (.int .i64 (1 + (shape.1 % 4)) :: (.int .i64 (1 + (shape.2 % 4)) :: (cellsX T63 v0_5.2.2.1 ++ (cellsX T65 v0_5.2.2.2.1 ++ (cellsX T69 v0_5.2.2.2.2))))))], gt⟩) ([], 0) hw48 (zL [] [107] []) ?_
           as_aux_lemma =>
            intro st2 x51 h hd50
            unfold lineallaw06_HazardLists_b2 at h
            refine AW.seq ?_
            refine zo ?_
            refine zB [(1, .sl (.pair (.int .i64) (.pair (.int .i64) (.pair (.int .i64) (.int .i64)))) deeds), (5, .bp 40000 0), (6, .int .i64 (1 + (shape.1 % 4))), (7, .int .i64 (1 + (shape.2 % 4))), (8, .int .i64 st1.2.2.2), (9, .bp 9 0), (11, .int .i64 v0_5.2.1), (12, .own 107), (13, .int .i64 st2.2), (61, .bool (decide (st2.2 < (1 + (shape.1 % 4)))))] [(9, .box 33 [.int .i64 (deeds.getD st1.2.2.2.toNat (0, 0, 0, 0)).1, .int .i64 (deeds.getD st1.2.2.2.toNat (0, 0, 0, 0)).2.1, .int .i64 (deeds.getD st1.2.2.2.toNat (0, 0, 0, 0)).2.2.1, .int .i64 (deeds.getD st1.2.2.2.toNat (0, 0, 0, 0)).2.2.2]), (107, .arr 3 (.int .i64) st2.1), (40000, .box 71 (.int .i64 (1 + (shape.1 % 4)) :: (.int .i64 (1 + (shape.2 % 4)) :: (cellsX T63 v0_5.2.2.1 ++ (cellsX T65 v0_5.2.2.2.1 ++ (cellsX T69 v0_5.2.2.2.2))))))] ?_
            refine zQ h (fun hb53 h => ?_) (fun hb53 h => ?_)
            ·refine zk ?_
             refine AW.have1 (fun b5_2 : (List Int) => lineallaw06_HazardLists_k4 st2 b5_2 = some x51) (fun b5_2 => ⟨fr [(1, .sl (.pair (.int .i64) (.pair (.int .i64) (.pair (.int .i64) (.int .i64)))) deeds), (5, .bp 40000 0), (6, .int .i64 (1 + (shape.1 % 4))), (7, .int .i64 (1 + (shape.2 % 4))), (8, .int .i64 st1.2.2.2), (9, .bp 9 0), (11, .int .i64 v0_5.2.1), (12, .own 107), (13, .int .i64 st2.2)], hpGet [(9, .box 33 [.int .i64 (deeds.getD st1.2.2.2.toNat (0, 0, 0, 0)).1, .int .i64 (deeds.getD st1.2.2.2.toNat (0, 0, 0, 0)).2.1, .int .i64 (deeds.getD st1.2.2.2.toNat (0, 0, 0, 0)).2.2.1, .int .i64 (deeds.getD st1.2.2.2.toNat (0, 0, 0, 0)).2.2.2]), (107, .arr 3 (.int .i64) b5_2), (40000, .box 71 (.int .i64 (1 + (shape.1 % 4)) :: (.int .i64 (1 + (shape.2 % 4)) :: (cellsX T63 v0_5.2.2.1 ++ (cellsX T65 v0_5.2.2.2.1 ++ (cellsX T69 v0_5.2.2.2.2))))))], gt⟩) (fun b5_2 h => ?_) (fun hk_lineallaw06_HazardLists_k4 => ?_)
             ·as_aux_lemma =>
               unfold lineallaw06_HazardLists_k4 at h
               refine AW.ops ?_
               obtain ⟨c54, h⟩ := ck_some.1 h
               refine zA [(1, .sl (.pair (.int .i64) (.pair (.int .i64) (.pair (.int .i64) (.int .i64)))) deeds), (5, .bp 40000 0), (6, .int .i64 (1 + (shape.1 % 4))), (7, .int .i64 (1 + (shape.2 % 4))), (8, .int .i64 st1.2.2.2), (9, .bp 9 0), (11, .int .i64 v0_5.2.1), (12, .own 107), (13, .int .i64 (st2.2 + 1))] [(9, .box 33 [.int .i64 (deeds.getD st1.2.2.2.toNat (0, 0, 0, 0)).1, .int .i64 (deeds.getD st1.2.2.2.toNat (0, 0, 0, 0)).2.1, .int .i64 (deeds.getD st1.2.2.2.toNat (0, 0, 0, 0)).2.2.1, .int .i64 (deeds.getD st1.2.2.2.toNat (0, 0, 0, 0)).2.2.2]), (107, .arr 3 (.int .i64) b5_2), (40000, .box 71 (.int .i64 (1 + (shape.1 % 4)) :: (.int .i64 (1 + (shape.2 % 4)) :: (cellsX T63 v0_5.2.2.1 ++ (cellsX T65 v0_5.2.2.2.1 ++ (cellsX T69 v0_5.2.2.2.2))))))] ?_
               obtain rfl := Option.some.inj h
               exact ⟨_, rfl, zL [] [] []⟩
             ·refine AW.seq ?_
              refine AW.block ?_
              refine zo ?_
              refine zS 2 [(1, .sl (.pair (.int .i64) (.pair (.int .i64) (.pair (.int .i64) (.int .i64)))) deeds), (5, .bp 40000 0), (6, .int .i64 (1 + (shape.1 % 4))), (7, .int .i64 (1 + (shape.2 % 4))), (8, .int .i64 st1.2.2.2), (9, .bp 9 0), (11, .int .i64 v0_5.2.1), (12, .own 107), (13, .int .i64 st2.2), (65, .bp 40000 0), (66, .int .i64 st2.2)] [(9, .box 33 [.int .i64 (deeds.getD st1.2.2.2.toNat (0, 0, 0, 0)).1, .int .i64 (deeds.getD st1.2.2.2.toNat (0, 0, 0, 0)).2.1, .int .i64 (deeds.getD st1.2.2.2.toNat (0, 0, 0, 0)).2.2.1, .int .i64 (deeds.getD st1.2.2.2.toNat (0, 0, 0, 0)).2.2.2]), (107, .arr 3 (.int .i64) st2.1), (40000, .box 71 (.int .i64 (1 + (shape.1 % 4)) :: (.int .i64 (1 + (shape.2 % 4)) :: (cellsX T63 v0_5.2.2.1 ++ (cellsX T65 v0_5.2.2.2.1 ++ (cellsX T69 v0_5.2.2.2.2))))))] ?_
              obtain ⟨v0_6, hv55, h⟩ := Option.bind_eq_some_iff.1 h
              refine zC [] [(1000, 40000)] (hc_hazard_Yard_List st2.2 ((1 + (shape.1 % 4)), (1 + (shape.2 % 4)), v0_5.2.2) hv55) [(1, .sl (.pair (.int .i64) (.pair (.int .i64) (.pair (.int .i64) (.int .i64)))) deeds), (5, .bp 40000 0), (6, .int .i64 (1 + (shape.1 % 4))), (7, .int .i64 (1 + (shape.2 % 4))), (8, .int .i64 st1.2.2.2), (9, .bp 9 0), (11, .int .i64 v0_5.2.1), (12, .own 107), (13, .int .i64 st2.2), (67, .tup [.own 77000, .int .i64 v0_6.2])] [(9, .box 33 [.int .i64 (deeds.getD st1.2.2.2.toNat (0, 0, 0, 0)).1, .int .i64 (deeds.getD st1.2.2.2.toNat (0, 0, 0, 0)).2.1, .int .i64 (deeds.getD st1.2.2.2.toNat (0, 0, 0, 0)).2.2.1, .int .i64 (deeds.getD st1.2.2.2.toNat (0, 0, 0, 0)).2.2.2]), (107, .arr 3 (.int .i64) st2.1), (40000, .box 71 (.int .i64 (1 + (shape.1 % 4)) :: (.int .i64 (1 + (shape.2 % 4)) :: (cellsX T63 v0_5.2.2.1 ++ (cellsX T65 v0_5.2.2.2.1 ++ (cellsX T69 v0_5.2.2.2.2)))))), (77000, .arr 3 (.int .i64) v0_6.1)] ?_
              refine zB [(1, .sl (.pair (.int .i64) (.pair (.int .i64) (.pair (.int .i64) (.int .i64)))) deeds), (5, .bp 40000 0), (6, .int .i64 (1 + (shape.1 % 4))), (7, .int .i64 (1 + (shape.2 % 4))), (8, .int .i64 st1.2.2.2), (9, .bp 9 0), (11, .int .i64 v0_5.2.1), (12, .own 107), (13, .int .i64 st2.2), (14, .own 77000), (15, .int .i64 v0_6.2)] [(9, .box 33 [.int .i64 (deeds.getD st1.2.2.2.toNat (0, 0, 0, 0)).1, .int .i64 (deeds.getD st1.2.2.2.toNat (0, 0, 0, 0)).2.1, .int .i64 (deeds.getD st1.2.2.2.toNat (0, 0, 0, 0)).2.2.1, .int .i64 (deeds.getD st1.2.2.2.toNat (0, 0, 0, 0)).2.2.2]), (107, .arr 3 (.int .i64) st2.1), (40000, .box 71 (.int .i64 (1 + (shape.1 % 4)) :: (.int .i64 (1 + (shape.2 % 4)) :: (cellsX T63 v0_5.2.2.1 ++ (cellsX T65 v0_5.2.2.2.1 ++ (cellsX T69 v0_5.2.2.2.2)))))), (77000, .arr 3 (.int .i64) v0_6.1)] ?_
              refine AW.seq ?_
              refine zo ?_
              refine zB [(1, .sl (.pair (.int .i64) (.pair (.int .i64) (.pair (.int .i64) (.int .i64)))) deeds), (5, .bp 40000 0), (6, .int .i64 (1 + (shape.1 % 4))), (7, .int .i64 (1 + (shape.2 % 4))), (8, .int .i64 st1.2.2.2), (9, .bp 9 0), (11, .int .i64 v0_5.2.1), (12, .own 107), (13, .int .i64 st2.2), (14, .own 77000), (71, .bool (!(decide (v0_6.2 = 0))))] [(9, .box 33 [.int .i64 (deeds.getD st1.2.2.2.toNat (0, 0, 0, 0)).1, .int .i64 (deeds.getD st1.2.2.2.toNat (0, 0, 0, 0)).2.1, .int .i64 (deeds.getD st1.2.2.2.toNat (0, 0, 0, 0)).2.2.1, .int .i64 (deeds.getD st1.2.2.2.toNat (0, 0, 0, 0)).2.2.2]), (107, .arr 3 (.int .i64) st2.1), (40000, .box 71 (.int .i64 (1 + (shape.1 % 4)) :: (.int .i64 (1 + (shape.2 % 4)) :: (cellsX T63 v0_5.2.2.1 ++ (cellsX T65 v0_5.2.2.2.1 ++ (cellsX T69 v0_5.2.2.2.2)))))), (77000, .arr 3 (.int .i64) v0_6.1)] ?_
              refine zQ h (fun hb56 h => ?_) (fun hb56 h => ?_)
              ·refine zo ?_
               refine zB [(4, .bool false)] [] ?_
               refine zr ?_
               refine ablock_r ?_
               refine athen_r ?_
               obtain rfl := Option.some.inj h
               try rw [← hd50 _ rfl] at ho49
               have h := ho49
               try simp only at h
               refine athen_r ?_
               refine ablock_r ?_
               refine athen_r ?_
               refine ablock_r ?_
               refine athen_r ?_
               obtain rfl := Option.some.inj h
               try rw [← hd17 _ rfl] at ho16
               have h := ho16
               try simp only at h
               refine athen_r ?_
               refine ablock_r ?_
               refine athen_r ?_
               obtain rfl := Option.some.inj h
               exact zR [] [] []
              ·refine zk ?_
               refine AW.have1 (fun b5 : (List Int) => lineallaw06_HazardLists_k5 shape deeds st1 v0_5 st2 v0_6 b5 = some x51) (fun b5 => ⟨fr [(1, .sl (.pair (.int .i64) (.pair (.int .i64) (.pair (.int .i64) (.int .i64)))) deeds), (5, .bp 40000 0), (6, .int .i64 (1 + (shape.1 % 4))), (7, .int .i64 (1 + (shape.2 % 4))), (8, .int .i64 st1.2.2.2), (9, .bp 9 0), (11, .int .i64 v0_5.2.1), (12, .own 107), (13, .int .i64 st2.2), (14, .own 77000)], hpGet [(9, .box 33 [.int .i64 (deeds.getD st1.2.2.2.toNat (0, 0, 0, 0)).1, .int .i64 (deeds.getD st1.2.2.2.toNat (0, 0, 0, 0)).2.1, .int .i64 (deeds.getD st1.2.2.2.toNat (0, 0, 0, 0)).2.2.1, .int .i64 (deeds.getD st1.2.2.2.toNat (0, 0, 0, 0)).2.2.2]), (107, .arr 3 (.int .i64) b5), (40000, .box 71 (.int .i64 (1 + (shape.1 % 4)) :: (.int .i64 (1 + (shape.2 % 4)) :: (cellsX T63 v0_5.2.2.1 ++ (cellsX T65 v0_5.2.2.2.1 ++ (cellsX T69 v0_5.2.2.2.2)))))), (77000, .arr 3 (.int .i64) v0_6.1)], gt⟩) (fun b5 h => ?_) (fun hk_lineallaw06_HazardLists_k5 => ?_)
               ·as_aux_lemma =>
                 unfold lineallaw06_HazardLists_k5 at h
                 refine zo ?_
                 refine zS 3 [(1, .sl (.pair (.int .i64) (.pair (.int .i64) (.pair (.int .i64) (.int .i64)))) deeds), (5, .bp 40000 0), (6, .int .i64 (1 + (shape.1 % 4))), (7, .int .i64 (1 + (shape.2 % 4))), (8, .int .i64 st1.2.2.2), (9, .bp 9 0), (11, .int .i64 v0_5.2.1), (12, .own 107), (13, .int .i64 st2.2), (14, .own 77000), (110, .bool (decide (v0_5.2.1 = 0)))] [(9, .box 33 [.int .i64 (deeds.getD st1.2.2.2.toNat (0, 0, 0, 0)).1, .int .i64 (deeds.getD st1.2.2.2.toNat (0, 0, 0, 0)).2.1, .int .i64 (deeds.getD st1.2.2.2.toNat (0, 0, 0, 0)).2.2.1, .int .i64 (deeds.getD st1.2.2.2.toNat (0, 0, 0, 0)).2.2.2]), (107, .arr 3 (.int .i64) b5), (40000, .box 71 (.int .i64 (1 + (shape.1 % 4)) :: (.int .i64 (1 + (shape.2 % 4)) :: (cellsX T63 v0_5.2.2.1 ++ (cellsX T65 v0_5.2.2.2.1 ++ (cellsX T69 v0_5.2.2.2.2)))))), (77000, .arr 3 (.int .i64) v0_6.1)] ?_
                 rcases zI h with ⟨hb57, h⟩ | ⟨hb57, h⟩
                 ·refine zS 5 [(1, .sl (.pair (.int .i64) (.pair (.int .i64) (.pair (.int .i64) (.int .i64)))) deeds), (5, .bp 40000 0), (6, .int .i64 (1 + (shape.1 % 4))), (7, .int .i64 (1 + (shape.2 % 4))), (8, .int .i64 st1.2.2.2), (9, .bp 9 0), (11, .int .i64 v0_5.2.1), (12, .own 107), (13, .int .i64 st2.2), (14, .own 77000), (115, .bool (decide ((deeds.getD st1.2.2.2.toNat (0, 0, 0, 0)).2.1 = st2.2)))] [(9, .box 33 [.int .i64 (deeds.getD st1.2.2.2.toNat (0, 0, 0, 0)).1, .int .i64 (deeds.getD st1.2.2.2.toNat (0, 0, 0, 0)).2.1, .int .i64 (deeds.getD st1.2.2.2.toNat (0, 0, 0, 0)).2.2.1, .int .i64 (deeds.getD st1.2.2.2.toNat (0, 0, 0, 0)).2.2.2]), (107, .arr 3 (.int .i64) b5), (40000, .box 71 (.int .i64 (1 + (shape.1 % 4)) :: (.int .i64 (1 + (shape.2 % 4)) :: (cellsX T63 v0_5.2.2.1 ++ (cellsX T65 v0_5.2.2.2.1 ++ (cellsX T69 v0_5.2.2.2.2)))))), (77000, .arr 3 (.int .i64) v0_6.1)] ?_
                  refine zS 1 [(1, .sl (.pair (.int .i64) (.pair (.int .i64) (.pair (.int .i64) (.int .i64)))) deeds), (5, .bp 40000 0), (6, .int .i64 (1 + (shape.1 % 4))), (7, .int .i64 (1 + (shape.2 % 4))), (8, .int .i64 st1.2.2.2), (9, .bp 9 0), (11, .int .i64 v0_5.2.1), (12, .own 107), (13, .int .i64 st2.2), (14, .own 77000), (116, .bool (decide ((deeds.getD st1.2.2.2.toNat (0, 0, 0, 0)).2.1 = st2.2)))] [(9, .box 33 [.int .i64 (deeds.getD st1.2.2.2.toNat (0, 0, 0, 0)).1, .int .i64 (deeds.getD st1.2.2.2.toNat (0, 0, 0, 0)).2.1, .int .i64 (deeds.getD st1.2.2.2.toNat (0, 0, 0, 0)).2.2.1, .int .i64 (deeds.getD st1.2.2.2.toNat (0, 0, 0, 0)).2.2.2]), (107, .arr 3 (.int .i64) b5), (40000, .box 71 (.int .i64 (1 + (shape.1 % 4)) :: (.int .i64 (1 + (shape.2 % 4)) :: (cellsX T63 v0_5.2.2.1 ++ (cellsX T65 v0_5.2.2.2.1 ++ (cellsX T69 v0_5.2.2.2.2)))))), (77000, .arr 3 (.int .i64) v0_6.1)] ?_
                  rcases zI h with ⟨hb58, h⟩ | ⟨hb58, h⟩
                  ·refine zS 4 [(1, .sl (.pair (.int .i64) (.pair (.int .i64) (.pair (.int .i64) (.int .i64)))) deeds), (5, .bp 40000 0), (6, .int .i64 (1 + (shape.1 % 4))), (7, .int .i64 (1 + (shape.2 % 4))), (8, .int .i64 st1.2.2.2), (9, .bp 9 0), (11, .int .i64 v0_5.2.1), (12, .own 107), (13, .int .i64 st2.2), (14, .own 77000), (116, .bool true), (120, .bool (decide ((deeds.getD st1.2.2.2.toNat (0, 0, 0, 0)).1 = 5)))] [(9, .box 33 [.int .i64 (deeds.getD st1.2.2.2.toNat (0, 0, 0, 0)).1, .int .i64 (deeds.getD st1.2.2.2.toNat (0, 0, 0, 0)).2.1, .int .i64 (deeds.getD st1.2.2.2.toNat (0, 0, 0, 0)).2.2.1, .int .i64 (deeds.getD st1.2.2.2.toNat (0, 0, 0, 0)).2.2.2]), (107, .arr 3 (.int .i64) b5), (40000, .box 71 (.int .i64 (1 + (shape.1 % 4)) :: (.int .i64 (1 + (shape.2 % 4)) :: (cellsX T63 v0_5.2.2.1 ++ (cellsX T65 v0_5.2.2.2.1 ++ (cellsX T69 v0_5.2.2.2.2)))))), (77000, .arr 3 (.int .i64) v0_6.1)] ?_
                   rcases zI h with ⟨hb59, h⟩ | ⟨hb59, h⟩
                   ·refine zS 4 [(1, .sl (.pair (.int .i64) (.pair (.int .i64) (.pair (.int .i64) (.int .i64)))) deeds), (5, .bp 40000 0), (6, .int .i64 (1 + (shape.1 % 4))), (7, .int .i64 (1 + (shape.2 % 4))), (8, .int .i64 st1.2.2.2), (9, .bp 9 0), (11, .int .i64 v0_5.2.1), (12, .own 107), (13, .int .i64 st2.2), (14, .own 77000), (116, .bool true), (120, .bool true), (124, .cv (undef))] [(9, .box 33 [.int .i64 (deeds.getD st1.2.2.2.toNat (0, 0, 0, 0)).1, .int .i64 (deeds.getD st1.2.2.2.toNat (0, 0, 0, 0)).2.1, .int .i64 (deeds.getD st1.2.2.2.toNat (0, 0, 0, 0)).2.2.1, .int .i64 (deeds.getD st1.2.2.2.toNat (0, 0, 0, 0)).2.2.2]), (107, .arr 3 (.int .i64) b5), (40000, .box 71 (.int .i64 (1 + (shape.1 % 4)) :: (.int .i64 (1 + (shape.2 % 4)) :: (cellsX T63 v0_5.2.2.1 ++ (cellsX T65 v0_5.2.2.2.1 ++ (cellsX T69 v0_5.2.2.2.2)))))), (77000, .arr 3 (.int .i64) v0_6.1)] ?_
                    refine zS 4 [(1, .sl (.pair (.int .i64) (.pair (.int .i64) (.pair (.int .i64) (.int .i64)))) deeds), (5, .bp 40000 0), (6, .int .i64 (1 + (shape.1 % 4))), (7, .int .i64 (1 + (shape.2 % 4))), (8, .int .i64 st1.2.2.2), (9, .bp 9 0), (11, .int .i64 v0_5.2.1), (12, .own 107), (13, .int .i64 st2.2), (14, .own 77000), (116, .bool true), (120, .bool true), (124, .cv (undef)), (128, .cv (undef))] [(9, .box 33 [.int .i64 (deeds.getD st1.2.2.2.toNat (0, 0, 0, 0)).1, .int .i64 (deeds.getD st1.2.2.2.toNat (0, 0, 0, 0)).2.1, .int .i64 (deeds.getD st1.2.2.2.toNat (0, 0, 0, 0)).2.2.1, .int .i64 (deeds.getD st1.2.2.2.toNat (0, 0, 0, 0)).2.2.2]), (107, .arr 3 (.int .i64) b5), (40000, .box 71 (.int .i64 (1 + (shape.1 % 4)) :: (.int .i64 (1 + (shape.2 % 4)) :: (cellsX T63 v0_5.2.2.1 ++ (cellsX T65 v0_5.2.2.2.1 ++ (cellsX T69 v0_5.2.2.2.2)))))), (77000, .arr 3 (.int .i64) v0_6.1)] ?_
                    refine zB [(1, .sl (.pair (.int .i64) (.pair (.int .i64) (.pair (.int .i64) (.int .i64)))) deeds), (5, .bp 40000 0), (6, .int .i64 (1 + (shape.1 % 4))), (7, .int .i64 (1 + (shape.2 % 4))), (8, .int .i64 st1.2.2.2), (9, .bp 9 0), (11, .int .i64 v0_5.2.1), (12, .own 107), (13, .int .i64 st2.2), (14, .own 77000), (131, .bool true)] [(9, .box 33 [.int .i64 (deeds.getD st1.2.2.2.toNat (0, 0, 0, 0)).1, .int .i64 (deeds.getD st1.2.2.2.toNat (0, 0, 0, 0)).2.1, .int .i64 (deeds.getD st1.2.2.2.toNat (0, 0, 0, 0)).2.2.1, .int .i64 (deeds.getD st1.2.2.2.toNat (0, 0, 0, 0)).2.2.2]), (107, .arr 3 (.int .i64) b5), (40000, .box 71 (.int .i64 (1 + (shape.1 % 4)) :: (.int .i64 (1 + (shape.2 % 4)) :: (cellsX T63 v0_5.2.2.1 ++ (cellsX T65 v0_5.2.2.2.1 ++ (cellsX T69 v0_5.2.2.2.2)))))), (77000, .arr 3 (.int .i64) v0_6.1)] ?_
                    refine AW.cond (b := true) rfl (fun _ => ?_) (fun hb60 => by cases hb60)
                    refine zo ?_
                    refine zS 1 [(1, .sl (.pair (.int .i64) (.pair (.int .i64) (.pair (.int .i64) (.int .i64)))) deeds), (5, .bp 40000 0), (6, .int .i64 (1 + (shape.1 % 4))), (7, .int .i64 (1 + (shape.2 % 4))), (8, .int .i64 st1.2.2.2), (9, .bp 9 0), (11, .int .i64 v0_5.2.1), (12, .own 107), (13, .int .i64 st2.2), (14, .own 77000), (132, .bp 40000 0)] [(9, .box 33 [.int .i64 (deeds.getD st1.2.2.2.toNat (0, 0, 0, 0)).1, .int .i64 (deeds.getD st1.2.2.2.toNat (0, 0, 0, 0)).2.1, .int .i64 (deeds.getD st1.2.2.2.toNat (0, 0, 0, 0)).2.2.1, .int .i64 (deeds.getD st1.2.2.2.toNat (0, 0, 0, 0)).2.2.2]), (107, .arr 3 (.int .i64) b5), (40000, .box 71 (.int .i64 (1 + (shape.1 % 4)) :: (.int .i64 (1 + (shape.2 % 4)) :: (cellsX T63 v0_5.2.2.1 ++ (cellsX T65 v0_5.2.2.2.1 ++ (cellsX T69 v0_5.2.2.2.2)))))), (77000, .arr 3 (.int .i64) v0_6.1)] ?_
                    obtain ⟨v0_9, hv61, h⟩ := Option.bind_eq_some_iff.1 h
                    refine zC [] [(1000, 40000)] (hc_hazard_Yard_Held ((1 + (shape.1 % 4)), (1 + (shape.2 % 4)), v0_5.2.2) hv61) [(1, .sl (.pair (.int .i64) (.pair (.int .i64) (.pair (.int .i64) (.int .i64)))) deeds), (5, .bp 40000 0), (6, .int .i64 (1 + (shape.1 % 4))), (7, .int .i64 (1 + (shape.2 % 4))), (8, .int .i64 st1.2.2.2), (9, .bp 9 0), (11, .int .i64 v0_5.2.1), (12, .own 107), (13, .int .i64 st2.2), (14, .own 77000), (133, .own 143000)] [(9, .box 33 [.int .i64 (deeds.getD st1.2.2.2.toNat (0, 0, 0, 0)).1, .int .i64 (deeds.getD st1.2.2.2.toNat (0, 0, 0, 0)).2.1, .int .i64 (deeds.getD st1.2.2.2.toNat (0, 0, 0, 0)).2.2.1, .int .i64 (deeds.getD st1.2.2.2.toNat (0, 0, 0, 0)).2.2.2]), (107, .arr 3 (.int .i64) b5), (40000, .box 71 (.int .i64 (1 + (shape.1 % 4)) :: (.int .i64 (1 + (shape.2 % 4)) :: (cellsX T63 v0_5.2.2.1 ++ (cellsX T65 v0_5.2.2.2.1 ++ (cellsX T69 v0_5.2.2.2.2)))))), (77000, .arr 3 (.int .i64) v0_6.1), (143000, .arr 3 (.int .i64) v0_9)] ?_
                    refine zB [(1, .sl (.pair (.int .i64) (.pair (.int .i64) (.pair (.int .i64) (.int .i64)))) deeds), (5, .bp 40000 0), (6, .int .i64 (1 + (shape.1 % 4))), (7, .int .i64 (1 + (shape.2 % 4))), (8, .int .i64 st1.2.2.2), (9, .bp 9 0), (11, .int .i64 v0_5.2.1), (12, .own 107), (13, .int .i64 st2.2), (14, .own 77000), (19, .own 143000)] [(9, .box 33 [.int .i64 (deeds.getD st1.2.2.2.toNat (0, 0, 0, 0)).1, .int .i64 (deeds.getD st1.2.2.2.toNat (0, 0, 0, 0)).2.1, .int .i64 (deeds.getD st1.2.2.2.toNat (0, 0, 0, 0)).2.2.1, .int .i64 (deeds.getD st1.2.2.2.toNat (0, 0, 0, 0)).2.2.2]), (107, .arr 3 (.int .i64) b5), (40000, .box 71 (.int .i64 (1 + (shape.1 % 4)) :: (.int .i64 (1 + (shape.2 % 4)) :: (cellsX T63 v0_5.2.2.1 ++ (cellsX T65 v0_5.2.2.2.1 ++ (cellsX T69 v0_5.2.2.2.2)))))), (77000, .arr 3 (.int .i64) v0_6.1), (143000, .arr 3 (.int .i64) v0_9)] ?_
                    refine zo ?_
                    refine zB [(1, .sl (.pair (.int .i64) (.pair (.int .i64) (.pair (.int .i64) (.int .i64)))) deeds), (5, .bp 40000 0), (6, .int .i64 (1 + (shape.1 % 4))), (7, .int .i64 (1 + (shape.2 % 4))), (8, .int .i64 st1.2.2.2), (9, .bp 9 0), (11, .int .i64 v0_5.2.1), (12, .own 107), (13, .int .i64 st2.2), (14, .own 77000), (19, .own 143000), (20, .int .i64 0)] [(9, .box 33 [.int .i64 (deeds.getD st1.2.2.2.toNat (0, 0, 0, 0)).1, .int .i64 (deeds.getD st1.2.2.2.toNat (0, 0, 0, 0)).2.1, .int .i64 (deeds.getD st1.2.2.2.toNat (0, 0, 0, 0)).2.2.1, .int .i64 (deeds.getD st1.2.2.2.toNat (0, 0, 0, 0)).2.2.2]), (107, .arr 3 (.int .i64) b5), (40000, .box 71 (.int .i64 (1 + (shape.1 % 4)) :: (.int .i64 (1 + (shape.2 % 4)) :: (cellsX T63 v0_5.2.2.1 ++ (cellsX T65 v0_5.2.2.2.1 ++ (cellsX T69 v0_5.2.2.2.2)))))), (77000, .arr 3 (.int .i64) v0_6.1), (143000, .arr 3 (.int .i64) v0_9)] ?_
                    refine AW.block ?_
                    obtain ⟨rv66, hw62, ho63⟩ := Option.bind_eq_some_iff.1 h
                    refine AW.loopO (lineallaw06_HazardLists_b4 v0_6 v0_9) (fun st4 => ⟨fr [(1, .sl (.pair (.int .i64) (.pair (.int .i64) (.pair (.int .i64) (.int .i64)))) deeds), (5, .bp 40000 0), (6, .int .i64 (1 + (shape.1 % 4))), (7, .int .i64 (1 + (shape.2 % 4))), (8, .int .i64 st1.2.2.2), (9, .bp 9 0), (11, .int .i64 v0_5.2.1), (12, .own 107), (13, .int .i64 st2.2), (14, .own 77000), (19, .own 143000), (20, .int .i64 st4)], hpGet [(9, .box 33 [.int .i64 (deeds.getD st1.2.2.2.toNat (0, 0, 0, 0)).1, .int .i64 (deeds.getD st1.2.2.2.toNat (0, 0, 0, 0)).2.1, .int .i64 (deeds.getD st1.2.2.2.toNat (0, 0, 0, 0)).2.2.1, .int .i64 (deeds.getD st1.2.2.2.toNat (0, 0, 0, 0)).2.2.2]), (107, .arr 3 (.int .i64) b5), (40000, .box 71 (.int .i64 (1 + (shape.1 % 4)) :: (.int .i64 (1 + (shape.2 % 4)) :: (cellsX T63 v0_5.2.2.1 ++ (cellsX T65 v0_5.2.2.2.1 ++ (cellsX T69 v0_5.2.2.2.2)))))), (77000, .arr 3 (.int .i64) v0_6.1), (143000, .arr 3 (.int .i64) v0_9)], gt⟩) 0 hw62 (zL [] [] []) ?_
                    as_aux_lemma =>
                     intro st4 x65 h hd64
                     unfold lineallaw06_HazardLists_b4 at h
                     refine AW.seq ?_
                     refine zo ?_
                     refine zB [(1, .sl (.pair (.int .i64) (.pair (.int .i64) (.pair (.int .i64) (.int .i64)))) deeds), (5, .bp 40000 0), (6, .int .i64 (1 + (shape.1 % 4))), (7, .int .i64 (1 + (shape.2 % 4))), (8, .int .i64 st1.2.2.2), (9, .bp 9 0), (11, .int .i64 v0_5.2.1), (12, .own 107), (13, .int .i64 st2.2), (14, .own 77000), (19, .own 143000), (20, .int .i64 st4), (137, .bool (decide (st4 < (v0_6.1.length : Int))))] [(9, .box 33 [.int .i64 (deeds.getD st1.2.2.2.toNat (0, 0, 0, 0)).1, .int .i64 (deeds.getD st1.2.2.2.toNat (0, 0, 0, 0)).2.1, .int .i64 (deeds.getD st1.2.2.2.toNat (0, 0, 0, 0)).2.2.1, .int .i64 (deeds.getD st1.2.2.2.toNat (0, 0, 0, 0)).2.2.2]), (107, .arr 3 (.int .i64) b5), (40000, .box 71 (.int .i64 (1 + (shape.1 % 4)) :: (.int .i64 (1 + (shape.2 % 4)) :: (cellsX T63 v0_5.2.2.1 ++ (cellsX T65 v0_5.2.2.2.1 ++ (cellsX T69 v0_5.2.2.2.2)))))), (77000, .arr 3 (.int .i64) v0_6.1), (143000, .arr 3 (.int .i64) v0_9)] ?_
                     refine zQ h (fun hb67 h => ?_) (fun hb67 h => ?_)
                     ·refine zk ?_
                      refine AW.seq ?_
                      refine AW.block ?_
                      refine zo ?_
                      obtain ⟨c68, h⟩ := ck_some.1 h
                      obtain ⟨c69, h⟩ := ck_some.1 h
                      refine zS 5 [(1, .sl (.pair (.int .i64) (.pair (.int .i64) (.pair (.int .i64) (.int .i64)))) deeds), (5, .bp 40000 0), (6, .int .i64 (1 + (shape.1 % 4))), (7, .int .i64 (1 + (shape.2 % 4))), (8, .int .i64 st1.2.2.2), (9, .bp 9 0), (11, .int .i64 v0_5.2.1), (12, .own 107), (13, .int .i64 st2.2), (14, .own 77000), (19, .own 143000), (20, .int .i64 st4), (140, .own 143000), (144, .int .i64 (v0_6.1.getD st4.toNat 0))] [(9, .box 33 [.int .i64 (deeds.getD st1.2.2.2.toNat (0, 0, 0, 0)).1, .int .i64 (deeds.getD st1.2.2.2.toNat (0, 0, 0, 0)).2.1, .int .i64 (deeds.getD st1.2.2.2.toNat (0, 0, 0, 0)).2.2.1, .int .i64 (deeds.getD st1.2.2.2.toNat (0, 0, 0, 0)).2.2.2]), (107, .arr 3 (.int .i64) b5), (40000, .box 71 (.int .i64 (1 + (shape.1 % 4)) :: (.int .i64 (1 + (shape.2 % 4)) :: (cellsX T63 v0_5.2.2.1 ++ (cellsX T65 v0_5.2.2.2.1 ++ (cellsX T69 v0_5.2.2.2.2)))))), (77000, .arr 3 (.int .i64) v0_6.1), (143000, .arr 3 (.int .i64) v0_9)] ?_
                      obtain ⟨v0_10, hv70, h⟩ := Option.bind_eq_some_iff.1 h
                      refine zC [143000] [] (hc_lineallaw06_has v0_9 (v0_6.1.getD st4.toNat 0) hv70) [(1, .sl (.pair (.int .i64) (.pair (.int .i64) (.pair (.int .i64) (.int .i64)))) deeds), (5, .bp 40000 0), (6, .int .i64 (1 + (shape.1 % 4))), (7, .int .i64 (1 + (shape.2 % 4))), (8, .int .i64 st1.2.2.2), (9, .bp 9 0), (11, .int .i64 v0_5.2.1), (12, .own 107), (13, .int .i64 st2.2), (14, .own 77000), (19, .own 143000), (20, .int .i64 st4), (145, .bool v0_10)] [(9, .box 33 [.int .i64 (deeds.getD st1.2.2.2.toNat (0, 0, 0, 0)).1, .int .i64 (deeds.getD st1.2.2.2.toNat (0, 0, 0, 0)).2.1, .int .i64 (deeds.getD st1.2.2.2.toNat (0, 0, 0, 0)).2.2.1, .int .i64 (deeds.getD st1.2.2.2.toNat (0, 0, 0, 0)).2.2.2]), (107, .arr 3 (.int .i64) b5), (40000, .box 71 (.int .i64 (1 + (shape.1 % 4)) :: (.int .i64 (1 + (shape.2 % 4)) :: (cellsX T63 v0_5.2.2.1 ++ (cellsX T65 v0_5.2.2.2.1 ++ (cellsX T69 v0_5.2.2.2.2)))))), (77000, .arr 3 (.int .i64) v0_6.1), (143000, .arr 3 (.int .i64) v0_9)] ?_
                      refine zB [(1, .sl (.pair (.int .i64) (.pair (.int .i64) (.pair (.int .i64) (.int .i64)))) deeds), (5, .bp 40000 0), (6, .int .i64 (1 + (shape.1 % 4))), (7, .int .i64 (1 + (shape.2 % 4))), (8, .int .i64 st1.2.2.2), (9, .bp 9 0), (11, .int .i64 v0_5.2.1), (12, .own 107), (13, .int .i64 st2.2), (14, .own 77000), (19, .own 143000), (20, .int .i64 st4), (146, .bool (!v0_10))] [(9, .box 33 [.int .i64 (deeds.getD st1.2.2.2.toNat (0, 0, 0, 0)).1, .int .i64 (deeds.getD st1.2.2.2.toNat (0, 0, 0, 0)).2.1, .int .i64 (deeds.getD st1.2.2.2.toNat (0, 0, 0, 0)).2.2.1, .int .i64 (deeds.getD st1.2.2.2.toNat (0, 0, 0, 0)).2.2.2]), (107, .arr 3 (.int .i64) b5), (40000, .box 71 (.int .i64 (1 + (shape.1 % 4)) :: (.int .i64 (1 + (shape.2 % 4)) :: (cellsX T63 v0_5.2.2.1 ++ (cellsX T65 v0_5.2.2.2.1 ++ (cellsX T69 v0_5.2.2.2.2)))))), (77000, .arr 3 (.int .i64) v0_6.1), (143000, .arr 3 (.int .i64) v0_9)] ?_
                      refine zQ h (fun hb71 h => ?_) (fun hb71 h => ?_)
                      ·refine zo ?_
                       refine zB [(4, .bool false)] [] ?_
                       refine AW.ret ?_
                       refine ablock_r ?_
                       refine athen_r ?_
                       obtain rfl := Option.some.inj h
                       try rw [← hd64 _ rfl] at ho63
                       have h := ho63
                       try simp only at h
                       refine athen_r ?_
                       refine ablock_r ?_
                       refine ablock_r ?_
                       refine athen_r ?_
                       obtain rfl := Option.some.inj h
                       try rw [← hd50 _ rfl] at ho49
                       have h := ho49
                       try simp only at h
                       refine athen_r ?_
                       refine ablock_r ?_
                       refine athen_r ?_
                       refine ablock_r ?_
                       refine athen_r ?_
                       obtain rfl := Option.some.inj h
                       try rw [← hd17 _ rfl] at ho16
                       have h := ho16
                       try simp only at h
                       refine athen_r ?_
                       refine ablock_r ?_
                       refine athen_r ?_
                       obtain rfl := Option.some.inj h
                       exact zR [] [] []
                      ·refine zm ?_
                       refine athen_n ?_
                       refine AW.ops ?_
                       obtain ⟨c72, h⟩ := ck_some.1 h
                       refine zA [(1, .sl (.pair (.int .i64) (.pair (.int .i64) (.pair (.int .i64) (.int .i64)))) deeds), (5, .bp 40000 0), (6, .int .i64 (1 + (shape.1 % 4))), (7, .int .i64 (1 + (shape.2 % 4))), (8, .int .i64 st1.2.2.2), (9, .bp 9 0), (11, .int .i64 v0_5.2.1), (12, .own 107), (13, .int .i64 st2.2), (14, .own 77000), (19, .own 143000), (20, .int .i64 (st4 + 1))] [(9, .box 33 [.int .i64 (deeds.getD st1.2.2.2.toNat (0, 0, 0, 0)).1, .int .i64 (deeds.getD st1.2.2.2.toNat (0, 0, 0, 0)).2.1, .int .i64 (deeds.getD st1.2.2.2.toNat (0, 0, 0, 0)).2.2.1, .int .i64 (deeds.getD st1.2.2.2.toNat (0, 0, 0, 0)).2.2.2]), (107, .arr 3 (.int .i64) b5), (40000, .box 71 (.int .i64 (1 + (shape.1 % 4)) :: (.int .i64 (1 + (shape.2 % 4)) :: (cellsX T63 v0_5.2.2.1 ++ (cellsX T65 v0_5.2.2.2.1 ++ (cellsX T69 v0_5.2.2.2.2)))))), (77000, .arr 3 (.int .i64) v0_6.1), (143000, .arr 3 (.int .i64) v0_9)] ?_
                       obtain rfl := Option.some.inj h
                       exact ⟨_, rfl, zL [] [] []⟩
                     ·refine AW.exit ?_
                      refine athen_e ?_
                      obtain rfl := Option.some.inj h
                      try rw [← hd64 _ rfl] at ho63
                      have h := ho63
                      try simp only at h
                      refine athen_e ?_
                      refine ablock_s ?_
                      refine ablock_n ?_
                      refine athen_n ?_
                      exact AW.weaken (zL [] [] []) (hk_lineallaw06_HazardLists_k4 _ h)
                   ·refine zS 4 [(1, .sl (.pair (.int .i64) (.pair (.int .i64) (.pair (.int .i64) (.int .i64)))) deeds), (5, .bp 40000 0), (6, .int .i64 (1 + (shape.1 % 4))), (7, .int .i64 (1 + (shape.2 % 4))), (8, .int .i64 st1.2.2.2), (9, .bp 9 0), (11, .int .i64 v0_5.2.1), (12, .own 107), (13, .int .i64 st2.2), (14, .own 77000), (116, .bool true), (120, .bool false), (124, .bool (decide ((deeds.getD st1.2.2.2.toNat (0, 0, 0, 0)).1 = 4)))] [(9, .box 33 [.int .i64 (deeds.getD st1.2.2.2.toNat (0, 0, 0, 0)).1, .int .i64 (deeds.getD st1.2.2.2.toNat (0, 0, 0, 0)).2.1, .int .i64 (deeds.getD st1.2.2.2.toNat (0, 0, 0, 0)).2.2.1, .int .i64 (deeds.getD st1.2.2.2.toNat (0, 0, 0, 0)).2.2.2]), (107, .arr 3 (.int .i64) b5), (40000, .box 71 (.int .i64 (1 + (shape.1 % 4)) :: (.int .i64 (1 + (shape.2 % 4)) :: (cellsX T63 v0_5.2.2.1 ++ (cellsX T65 v0_5.2.2.2.1 ++ (cellsX T69 v0_5.2.2.2.2)))))), (77000, .arr 3 (.int .i64) v0_6.1)] ?_
                    rcases zI h with ⟨hb73, h⟩ | ⟨hb73, h⟩
                    ·refine zS 5 [(1, .sl (.pair (.int .i64) (.pair (.int .i64) (.pair (.int .i64) (.int .i64)))) deeds), (5, .bp 40000 0), (6, .int .i64 (1 + (shape.1 % 4))), (7, .int .i64 (1 + (shape.2 % 4))), (8, .int .i64 st1.2.2.2), (9, .bp 9 0), (11, .int .i64 v0_5.2.1), (12, .own 107), (13, .int .i64 st2.2), (14, .own 77000), (116, .bool true), (120, .bool false), (129, .bool (decide ((1 + (shape.2 % 4)) ≤ (v0_6.1.length : Int))))] [(9, .box 33 [.int .i64 (deeds.getD st1.2.2.2.toNat (0, 0, 0, 0)).1, .int .i64 (deeds.getD st1.2.2.2.toNat (0, 0, 0, 0)).2.1, .int .i64 (deeds.getD st1.2.2.2.toNat (0, 0, 0, 0)).2.2.1, .int .i64 (deeds.getD st1.2.2.2.toNat (0, 0, 0, 0)).2.2.2]), (107, .arr 3 (.int .i64) b5), (40000, .box 71 (.int .i64 (1 + (shape.1 % 4)) :: (.int .i64 (1 + (shape.2 % 4)) :: (cellsX T63 v0_5.2.2.1 ++ (cellsX T65 v0_5.2.2.2.1 ++ (cellsX T69 v0_5.2.2.2.2)))))), (77000, .arr 3 (.int .i64) v0_6.1)] ?_
                     refine zB [(1, .sl (.pair (.int .i64) (.pair (.int .i64) (.pair (.int .i64) (.int .i64)))) deeds), (5, .bp 40000 0), (6, .int .i64 (1 + (shape.1 % 4))), (7, .int .i64 (1 + (shape.2 % 4))), (8, .int .i64 st1.2.2.2), (9, .bp 9 0), (11, .int .i64 v0_5.2.1), (12, .own 107), (13, .int .i64 st2.2), (14, .own 77000), (131, .bool (decide ((1 + (shape.2 % 4)) ≤ (v0_6.1.length : Int))))] [(9, .box 33 [.int .i64 (deeds.getD st1.2.2.2.toNat (0, 0, 0, 0)).1, .int .i64 (deeds.getD st1.2.2.2.toNat (0, 0, 0, 0)).2.1, .int .i64 (deeds.getD st1.2.2.2.toNat (0, 0, 0, 0)).2.2.1, .int .i64 (deeds.getD st1.2.2.2.toNat (0, 0, 0, 0)).2.2.2]), (107, .arr 3 (.int .i64) b5), (40000, .box 71 (.int .i64 (1 + (shape.1 % 4)) :: (.int .i64 (1 + (shape.2 % 4)) :: (cellsX T63 v0_5.2.2.1 ++ (cellsX T65 v0_5.2.2.2.1 ++ (cellsX T69 v0_5.2.2.2.2)))))), (77000, .arr 3 (.int .i64) v0_6.1)] ?_
                     refine zQ h (fun hb74 h => ?_) (fun hb74 h => ?_)
                     ·refine zo ?_
                      refine zS 1 [(1, .sl (.pair (.int .i64) (.pair (.int .i64) (.pair (.int .i64) (.int .i64)))) deeds), (5, .bp 40000 0), (6, .int .i64 (1 + (shape.1 % 4))), (7, .int .i64 (1 + (shape.2 % 4))), (8, .int .i64 st1.2.2.2), (9, .bp 9 0), (11, .int .i64 v0_5.2.1), (12, .own 107), (13, .int .i64 st2.2), (14, .own 77000), (132, .bp 40000 0)] [(9, .box 33 [.int .i64 (deeds.getD st1.2.2.2.toNat (0, 0, 0, 0)).1, .int .i64 (deeds.getD st1.2.2.2.toNat (0, 0, 0, 0)).2.1, .int .i64 (deeds.getD st1.2.2.2.toNat (0, 0, 0, 0)).2.2.1, .int .i64 (deeds.getD st1.2.2.2.toNat (0, 0, 0, 0)).2.2.2]), (107, .arr 3 (.int .i64) b5), (40000, .box 71 (.int .i64 (1 + (shape.1 % 4)) :: (.int .i64 (1 + (shape.2 % 4)) :: (cellsX T63 v0_5.2.2.1 ++ (cellsX T65 v0_5.2.2.2.1 ++ (cellsX T69 v0_5.2.2.2.2)))))), (77000, .arr 3 (.int .i64) v0_6.1)] ?_
                      obtain ⟨v0_11, hv75, h⟩ := Option.bind_eq_some_iff.1 h
                      refine zC [] [(1000, 40000)] (hc_hazard_Yard_Held ((1 + (shape.1 % 4)), (1 + (shape.2 % 4)), v0_5.2.2) hv75) [(1, .sl (.pair (.int .i64) (.pair (.int .i64) (.pair (.int .i64) (.int .i64)))) deeds), (5, .bp 40000 0), (6, .int .i64 (1 + (shape.1 % 4))), (7, .int .i64 (1 + (shape.2 % 4))), (8, .int .i64 st1.2.2.2), (9, .bp 9 0), (11, .int .i64 v0_5.2.1), (12, .own 107), (13, .int .i64 st2.2), (14, .own 77000), (133, .own 143000)] [(9, .box 33 [.int .i64 (deeds.getD st1.2.2.2.toNat (0, 0, 0, 0)).1, .int .i64 (deeds.getD st1.2.2.2.toNat (0, 0, 0, 0)).2.1, .int .i64 (deeds.getD st1.2.2.2.toNat (0, 0, 0, 0)).2.2.1, .int .i64 (deeds.getD st1.2.2.2.toNat (0, 0, 0, 0)).2.2.2]), (107, .arr 3 (.int .i64) b5), (40000, .box 71 (.int .i64 (1 + (shape.1 % 4)) :: (.int .i64 (1 + (shape.2 % 4)) :: (cellsX T63 v0_5.2.2.1 ++ (cellsX T65 v0_5.2.2.2.1 ++ (cellsX T69 v0_5.2.2.2.2)))))), (77000, .arr 3 (.int .i64) v0_6.1), (143000, .arr 3 (.int .i64) v0_11)] ?_
                      refine zB [(1, .sl (.pair (.int .i64) (.pair (.int .i64) (.pair (.int .i64) (.int .i64)))) deeds), (5, .bp 40000 0), (6, .int .i64 (1 + (shape.1 % 4))), (7, .int .i64 (1 + (shape.2 % 4))), (8, .int .i64 st1.2.2.2), (9, .bp 9 0), (11, .int .i64 v0_5.2.1), (12, .own 107), (13, .int .i64 st2.2), (14, .own 77000), (19, .own 143000)] [(9, .box 33 [.int .i64 (deeds.getD st1.2.2.2.toNat (0, 0, 0, 0)).1, .int .i64 (deeds.getD st1.2.2.2.toNat (0, 0, 0, 0)).2.1, .int .i64 (deeds.getD st1.2.2.2.toNat (0, 0, 0, 0)).2.2.1, .int .i64 (deeds.getD st1.2.2.2.toNat (0, 0, 0, 0)).2.2.2]), (107, .arr 3 (.int .i64) b5), (40000, .box 71 (.int .i64 (1 + (shape.1 % 4)) :: (.int .i64 (1 + (shape.2 % 4)) :: (cellsX T63 v0_5.2.2.1 ++ (cellsX T65 v0_5.2.2.2.1 ++ (cellsX T69 v0_5.2.2.2.2)))))), (77000, .arr 3 (.int .i64) v0_6.1), (143000, .arr 3 (.int .i64) v0_11)] ?_
                      refine zo ?_
                      refine zB [(1, .sl (.pair (.int .i64) (.pair (.int .i64) (.pair (.int .i64) (.int .i64)))) deeds), (5, .bp 40000 0), (6, .int .i64 (1 + (shape.1 % 4))), (7, .int .i64 (1 + (shape.2 % 4))), (8, .int .i64 st1.2.2.2), (9, .bp 9 0), (11, .int .i64 v0_5.2.1), (12, .own 107), (13, .int .i64 st2.2), (14, .own 77000), (19, .own 143000), (20, .int .i64 0)] [(9, .box 33 [.int .i64 (deeds.getD st1.2.2.2.toNat (0, 0, 0, 0)).1, .int .i64 (deeds.getD st1.2.2.2.toNat (0, 0, 0, 0)).2.1, .int .i64 (deeds.getD st1.2.2.2.toNat (0, 0, 0, 0)).2.2.1, .int .i64 (deeds.getD st1.2.2.2.toNat (0, 0, 0, 0)).2.2.2]), (107, .arr 3 (.int .i64) b5), (40000, .box 71 (.int .i64 (1 + (shape.1 % 4)) :: (.int .i64 (1 + (shape.2 % 4)) :: (cellsX T63 v0_5.2.2.1 ++ (cellsX T65 v0_5.2.2.2.1 ++ (cellsX T69 v0_5.2.2.2.2)))))), (77000, .arr 3 (.int .i64) v0_6.1), (143000, .arr 3 (.int .i64) v0_11)] ?_
                      refine AW.block ?_
                      obtain ⟨rv80, hw76, ho77⟩ := Option.bind_eq_some_iff.1 h
                      refine AW.loopO (lineallaw06_HazardLists_b5 v0_6 v0_11) (fun st5 => ⟨fr [(1, .sl (.pair (.int .i64) (.pair (.int .i64) (.pair (.int .i64) (.int .i64)))) deeds), (5, .bp 40000 0), (6, .int .i64 (1 + (shape.1 % 4))), (7, .int .i64 (1 + (shape.2 % 4))), (8, .int .i64 st1.2.2.2), (9, .bp 9 0), (11, .int .i64 v0_5.2.1), (12, .own 107), (13, .int .i64 st2.2), (14, .own 77000), (19, .own 143000), (20, .int .i64 st5)], hpGet [(9, .box 33 [.int .i64 (deeds.getD st1.2.2.2.toNat (0, 0, 0, 0)).1, .int .i64 (deeds.getD st1.2.2.2.toNat (0, 0, 0, 0)).2.1, .int .i64 (deeds.getD st1.2.2.2.toNat (0, 0, 0, 0)).2.2.1, .int .i64 (deeds.getD st1.2.2.2.toNat (0, 0, 0, 0)).2.2.2]), (107, .arr 3 (.int .i64) b5), (40000, .box 71 (.int .i64 (1 + (shape.1 % 4)) :: (.int .i64 (1 + (shape.2 % 4)) :: (cellsX T63 v0_5.2.2.1 ++ (cellsX T65 v0_5.2.2.2.1 ++ (cellsX T69 v0_5.2.2.2.2)))))), (77000, .arr 3 (.int .i64) v0_6.1), (143000, .arr 3 (.int .i64) v0_11)], gt⟩) 0 hw76 (zL [] [] []) ?_
                      as_aux_lemma =>
                       intro st5 x79 h hd78
                       unfold lineallaw06_HazardLists_b5 at h
                       refine AW.seq ?_
                       refine zo ?_
                       refine zB [(1, .sl (.pair (.int .i64) (.pair (.int .i64) (.pair (.int .i64) (.int .i64)))) deeds), (5, .bp 40000 0), (6, .int .i64 (1 + (shape.1 % 4))), (7, .int .i64 (1 + (shape.2 % 4))), (8, .int .i64 st1.2.2.2), (9, .bp 9 0), (11, .int .i64 v0_5.2.1), (12, .own 107), (13, .int .i64 st2.2), (14, .own 77000), (19, .own 143000), (20, .int .i64 st5), (137, .bool (decide (st5 < (v0_6.1.length : Int))))] [(9, .box 33 [.int .i64 (deeds.getD st1.2.2.2.toNat (0, 0, 0, 0)).1, .int .i64 (deeds.getD st1.2.2.2.toNat (0, 0, 0, 0)).2.1, .int .i64 (deeds.getD st1.2.2.2.toNat (0, 0, 0, 0)).2.2.1, .int .i64 (deeds.getD st1.2.2.2.toNat (0, 0, 0, 0)).2.2.2]), (107, .arr 3 (.int .i64) b5), (40000, .box 71 (.int .i64 (1 + (shape.1 % 4)) :: (.int .i64 (1 + (shape.2 % 4)) :: (cellsX T63 v0_5.2.2.1 ++ (cellsX T65 v0_5.2.2.2.1 ++ (cellsX T69 v0_5.2.2.2.2)))))), (77000, .arr 3 (.int .i64) v0_6.1), (143000, .arr 3 (.int .i64) v0_11)] ?_
                       refine zQ h (fun hb81 h => ?_) (fun hb81 h => ?_)
                       ·refine zk ?_
                        refine AW.seq ?_
                        refine AW.block ?_
                        refine zo ?_
                        obtain ⟨c82, h⟩ := ck_some.1 h
                        obtain ⟨c83, h⟩ := ck_some.1 h
                        refine zS 5 [(1, .sl (.pair (.int .i64) (.pair (.int .i64) (.pair (.int .i64) (.int .i64)))) deeds), (5, .bp 40000 0), (6, .int .i64 (1 + (shape.1 % 4))), (7, .int .i64 (1 + (shape.2 % 4))), (8, .int .i64 st1.2.2.2), (9, .bp 9 0), (11, .int .i64 v0_5.2.1), (12, .own 107), (13, .int .i64 st2.2), (14, .own 77000), (19, .own 143000), (20, .int .i64 st5), (140, .own 143000), (144, .int .i64 (v0_6.1.getD st5.toNat 0))] [(9, .box 33 [.int .i64 (deeds.getD st1.2.2.2.toNat (0, 0, 0, 0)).1, .int .i64 (deeds.getD st1.2.2.2.toNat (0, 0, 0, 0)).2.1, .int .i64 (deeds.getD st1.2.2.2.toNat (0, 0, 0, 0)).2.2.1, .int .i64 (deeds.getD st1.2.2.2.toNat (0, 0, 0, 0)).2.2.2]), (107, .arr 3 (.int .i64) b5), (40000, .box 71 (.int .i64 (1 + (shape.1 % 4)) :: (.int .i64 (1 + (shape.2 % 4)) :: (cellsX T63 v0_5.2.2.1 ++ (cellsX T65 v0_5.2.2.2.1 ++ (cellsX T69 v0_5.2.2.2.2)))))), (77000, .arr 3 (.int .i64) v0_6.1), (143000, .arr 3 (.int .i64) v0_11)] ?_
                        obtain ⟨v0_12, hv84, h⟩ := Option.bind_eq_some_iff.1 h
                        refine zC [143000] [] (hc_lineallaw06_has v0_11 (v0_6.1.getD st5.toNat 0) hv84) [(1, .sl (.pair (.int .i64) (.pair (.int .i64) (.pair (.int .i64) (.int .i64)))) deeds), (5, .bp 40000 0), (6, .int .i64 (1 + (shape.1 % 4))), (7, .int .i64 (1 + (shape.2 % 4))), (8, .int .i64 st1.2.2.2), (9, .bp 9 0), (11, .int .i64 v0_5.2.1), (12, .own 107), (13, .int .i64 st2.2), (14, .own 77000), (19, .own 143000), (20, .int .i64 st5), (145, .bool v0_12)] [(9, .box 33 [.int .i64 (deeds.getD st1.2.2.2.toNat (0, 0, 0, 0)).1, .int .i64 (deeds.getD st1.2.2.2.toNat (0, 0, 0, 0)).2.1, .int .i64 (deeds.getD st1.2.2.2.toNat (0, 0, 0, 0)).2.2.1, .int .i64 (deeds.getD st1.2.2.2.toNat (0, 0, 0, 0)).2.2.2]), (107, .arr 3 (.int .i64) b5), (40000, .box 71 (.int .i64 (1 + (shape.1 % 4)) :: (.int .i64 (1 + (shape.2 % 4)) :: (cellsX T63 v0_5.2.2.1 ++ (cellsX T65 v0_5.2.2.2.1 ++ (cellsX T69 v0_5.2.2.2.2)))))), (77000, .arr 3 (.int .i64) v0_6.1), (143000, .arr 3 (.int .i64) v0_11)] ?_
                        refine zB [(1, .sl (.pair (.int .i64) (.pair (.int .i64) (.pair (.int .i64) (.int .i64)))) deeds), (5, .bp 40000 0), (6, .int .i64 (1 + (shape.1 % 4))), (7, .int .i64 (1 + (shape.2 % 4))), (8, .int .i64 st1.2.2.2), (9, .bp 9 0), (11, .int .i64 v0_5.2.1), (12, .own 107), (13, .int .i64 st2.2), (14, .own 77000), (19, .own 143000), (20, .int .i64 st5), (146, .bool (!v0_12))] [(9, .box 33 [.int .i64 (deeds.getD st1.2.2.2.toNat (0, 0, 0, 0)).1, .int .i64 (deeds.getD st1.2.2.2.toNat (0, 0, 0, 0)).2.1, .int .i64 (deeds.getD st1.2.2.2.toNat (0, 0, 0, 0)).2.2.1, .int .i64 (deeds.getD st1.2.2.2.toNat (0, 0, 0, 0)).2.2.2]), (107, .arr 3 (.int .i64) b5), (40000, .box 71 (.int .i64 (1 + (shape.1 % 4)) :: (.int .i64 (1 + (shape.2 % 4)) :: (cellsX T63 v0_5.2.2.1 ++ (cellsX T65 v0_5.2.2.2.1 ++ (cellsX T69 v0_5.2.2.2.2)))))), (77000, .arr 3 (.int .i64) v0_6.1), (143000, .arr 3 (.int .i64) v0_11)] ?_
                        refine zQ h (fun hb85 h => ?_) (fun hb85 h => ?_)
                        ·refine zo ?_
                         refine zB [(4, .bool false)] [] ?_
                         refine AW.ret ?_
                         refine ablock_r ?_
                         refine athen_r ?_
                         obtain rfl := Option.some.inj h
                         try rw [← hd78 _ rfl] at ho77
                         have h := ho77
                         try simp only at h
                         refine athen_r ?_
                         refine ablock_r ?_
                         refine ablock_r ?_
                         refine athen_r ?_
                         obtain rfl := Option.some.inj h
                         try rw [← hd50 _ rfl] at ho49
                         have h := ho49
                         try simp only at h
                         refine athen_r ?_
                         refine ablock_r ?_
                         refine athen_r ?_
                         refine ablock_r ?_
                         refine athen_r ?_
                         obtain rfl := Option.some.inj h
                         try rw [← hd17 _ rfl] at ho16
                         have h := ho16
                         try simp only at h
                         refine athen_r ?_
                         refine ablock_r ?_
                         refine athen_r ?_
                         obtain rfl := Option.some.inj h
                         exact zR [] [] []
                        ·refine zm ?_
                         refine athen_n ?_
                         refine AW.ops ?_
                         obtain ⟨c86, h⟩ := ck_some.1 h
                         refine zA [(1, .sl (.pair (.int .i64) (.pair (.int .i64) (.pair (.int .i64) (.int .i64)))) deeds), (5, .bp 40000 0), (6, .int .i64 (1 + (shape.1 % 4))), (7, .int .i64 (1 + (shape.2 % 4))), (8, .int .i64 st1.2.2.2), (9, .bp 9 0), (11, .int .i64 v0_5.2.1), (12, .own 107), (13, .int .i64 st2.2), (14, .own 77000), (19, .own 143000), (20, .int .i64 (st5 + 1))] [(9, .box 33 [.int .i64 (deeds.getD st1.2.2.2.toNat (0, 0, 0, 0)).1, .int .i64 (deeds.getD st1.2.2.2.toNat (0, 0, 0, 0)).2.1, .int .i64 (deeds.getD st1.2.2.2.toNat (0, 0, 0, 0)).2.2.1, .int .i64 (deeds.getD st1.2.2.2.toNat (0, 0, 0, 0)).2.2.2]), (107, .arr 3 (.int .i64) b5), (40000, .box 71 (.int .i64 (1 + (shape.1 % 4)) :: (.int .i64 (1 + (shape.2 % 4)) :: (cellsX T63 v0_5.2.2.1 ++ (cellsX T65 v0_5.2.2.2.1 ++ (cellsX T69 v0_5.2.2.2.2)))))), (77000, .arr 3 (.int .i64) v0_6.1), (143000, .arr 3 (.int .i64) v0_11)] ?_
                         obtain rfl := Option.some.inj h
                         exact ⟨_, rfl, zL [] [] []⟩
                       ·refine AW.exit ?_
                        refine athen_e ?_
                        obtain rfl := Option.some.inj h
                        try rw [← hd78 _ rfl] at ho77
                        have h := ho77
                        try simp only at h
                        refine athen_e ?_
                        refine ablock_s ?_
                        refine ablock_n ?_
                        refine athen_n ?_
                        exact AW.weaken (zL [] [] []) (hk_lineallaw06_HazardLists_k4 _ h)
                     ·refine zm ?_
                      refine athen_n ?_
                      exact AW.weaken (zL [] [] []) (hk_lineallaw06_HazardLists_k4 _ h)
                    ·refine zS 4 [(1, .sl (.pair (.int .i64) (.pair (.int .i64) (.pair (.int .i64) (.int .i64)))) deeds), (5, .bp 40000 0), (6, .int .i64 (1 + (shape.1 % 4))), (7, .int .i64 (1 + (shape.2 % 4))), (8, .int .i64 st1.2.2.2), (9, .bp 9 0), (11, .int .i64 v0_5.2.1), (12, .own 107), (13, .int .i64 st2.2), (14, .own 77000), (116, .bool true), (120, .bool false), (124, .bool false), (128, .cv (undef))] [(9, .box 33 [.int .i64 (deeds.getD st1.2.2.2.toNat (0, 0, 0, 0)).1, .int .i64 (deeds.getD st1.2.2.2.toNat (0, 0, 0, 0)).2.1, .int .i64 (deeds.getD st1.2.2.2.toNat (0, 0, 0, 0)).2.2.1, .int .i64 (deeds.getD st1.2.2.2.toNat (0, 0, 0, 0)).2.2.2]), (107, .arr 3 (.int .i64) b5), (40000, .box 71 (.int .i64 (1 + (shape.1 % 4)) :: (.int .i64 (1 + (shape.2 % 4)) :: (cellsX T63 v0_5.2.2.1 ++ (cellsX T65 v0_5.2.2.2.1 ++ (cellsX T69 v0_5.2.2.2.2)))))), (77000, .arr 3 (.int .i64) v0_6.1)] ?_
                     refine zB [(1, .sl (.pair (.int .i64) (.pair (.int .i64) (.pair (.int .i64) (.int .i64)))) deeds), (5, .bp 40000 0), (6, .int .i64 (1 + (shape.1 % 4))), (7, .int .i64 (1 + (shape.2 % 4))), (8, .int .i64 st1.2.2.2), (9, .bp 9 0), (11, .int .i64 v0_5.2.1), (12, .own 107), (13, .int .i64 st2.2), (14, .own 77000), (131, .bool false)] [(9, .box 33 [.int .i64 (deeds.getD st1.2.2.2.toNat (0, 0, 0, 0)).1, .int .i64 (deeds.getD st1.2.2.2.toNat (0, 0, 0, 0)).2.1, .int .i64 (deeds.getD st1.2.2.2.toNat (0, 0, 0, 0)).2.2.1, .int .i64 (deeds.getD st1.2.2.2.toNat (0, 0, 0, 0)).2.2.2]), (107, .arr 3 (.int .i64) b5), (40000, .box 71 (.int .i64 (1 + (shape.1 % 4)) :: (.int .i64 (1 + (shape.2 % 4)) :: (cellsX T63 v0_5.2.2.1 ++ (cellsX T65 v0_5.2.2.2.1 ++ (cellsX T69 v0_5.2.2.2.2)))))), (77000, .arr 3 (.int .i64) v0_6.1)] ?_
                     refine AW.cond (b := false) rfl (fun hb87 => by cases hb87) (fun _ => ?_)
                     refine zm ?_
                     refine athen_n ?_
                     exact AW.weaken (zL [] [] []) (hk_lineallaw06_HazardLists_k4 _ h)
                  ·refine zS 4 [(1, .sl (.pair (.int .i64) (.pair (.int .i64) (.pair (.int .i64) (.int .i64)))) deeds), (5, .bp 40000 0), (6, .int .i64 (1 + (shape.1 % 4))), (7, .int .i64 (1 + (shape.2 % 4))), (8, .int .i64 st1.2.2.2), (9, .bp 9 0), (11, .int .i64 v0_5.2.1), (12, .own 107), (13, .int .i64 st2.2), (14, .own 77000), (116, .bool false), (120, .cv (undef))] [(9, .box 33 [.int .i64 (deeds.getD st1.2.2.2.toNat (0, 0, 0, 0)).1, .int .i64 (deeds.getD st1.2.2.2.toNat (0, 0, 0, 0)).2.1, .int .i64 (deeds.getD st1.2.2.2.toNat (0, 0, 0, 0)).2.2.1, .int .i64 (deeds.getD st1.2.2.2.toNat (0, 0, 0, 0)).2.2.2]), (107, .arr 3 (.int .i64) b5), (40000, .box 71 (.int .i64 (1 + (shape.1 % 4)) :: (.int .i64 (1 + (shape.2 % 4)) :: (cellsX T63 v0_5.2.2.1 ++ (cellsX T65 v0_5.2.2.2.1 ++ (cellsX T69 v0_5.2.2.2.2)))))), (77000, .arr 3 (.int .i64) v0_6.1)] ?_
                   refine zS 4 [(1, .sl (.pair (.int .i64) (.pair (.int .i64) (.pair (.int .i64) (.int .i64)))) deeds), (5, .bp 40000 0), (6, .int .i64 (1 + (shape.1 % 4))), (7, .int .i64 (1 + (shape.2 % 4))), (8, .int .i64 st1.2.2.2), (9, .bp 9 0), (11, .int .i64 v0_5.2.1), (12, .own 107), (13, .int .i64 st2.2), (14, .own 77000), (116, .bool false), (120, .cv (undef)), (124, .cv (undef))] [(9, .box 33 [.int .i64 (deeds.getD st1.2.2.2.toNat (0, 0, 0, 0)).1, .int .i64 (deeds.getD st1.2.2.2.toNat (0, 0, 0, 0)).2.1, .int .i64 (deeds.getD st1.2.2.2.toNat (0, 0, 0, 0)).2.2.1, .int .i64 (deeds.getD st1.2.2.2.toNat (0, 0, 0, 0)).2.2.2]), (107, .arr 3 (.int .i64) b5), (40000, .box 71 (.int .i64 (1 + (shape.1 % 4)) :: (.int .i64 (1 + (shape.2 % 4)) :: (cellsX T63 v0_5.2.2.1 ++ (cellsX T65 v0_5.2.2.2.1 ++ (cellsX T69 v0_5.2.2.2.2)))))), (77000, .arr 3 (.int .i64) v0_6.1)] ?_
                   refine zS 4 [(1, .sl (.pair (.int .i64) (.pair (.int .i64) (.pair (.int .i64) (.int .i64)))) deeds), (5, .bp 40000 0), (6, .int .i64 (1 + (shape.1 % 4))), (7, .int .i64 (1 + (shape.2 % 4))), (8, .int .i64 st1.2.2.2), (9, .bp 9 0), (11, .int .i64 v0_5.2.1), (12, .own 107), (13, .int .i64 st2.2), (14, .own 77000), (116, .bool false), (120, .cv (undef)), (124, .cv (undef)), (128, .cv (undef))] [(9, .box 33 [.int .i64 (deeds.getD st1.2.2.2.toNat (0, 0, 0, 0)).1, .int .i64 (deeds.getD st1.2.2.2.toNat (0, 0, 0, 0)).2.1, .int .i64 (deeds.getD st1.2.2.2.toNat (0, 0, 0, 0)).2.2.1, .int .i64 (deeds.getD st1.2.2.2.toNat (0, 0, 0, 0)).2.2.2]), (107, .arr 3 (.int .i64) b5), (40000, .box 71 (.int .i64 (1 + (shape.1 % 4)) :: (.int .i64 (1 + (shape.2 % 4)) :: (cellsX T63 v0_5.2.2.1 ++ (cellsX T65 v0_5.2.2.2.1 ++ (cellsX T69 v0_5.2.2.2.2)))))), (77000, .arr 3 (.int .i64) v0_6.1)] ?_
                   refine zB [(1, .sl (.pair (.int .i64) (.pair (.int .i64) (.pair (.int .i64) (.int .i64)))) deeds), (5, .bp 40000 0), (6, .int .i64 (1 + (shape.1 % 4))), (7, .int .i64 (1 + (shape.2 % 4))), (8, .int .i64 st1.2.2.2), (9, .bp 9 0), (11, .int .i64 v0_5.2.1), (12, .own 107), (13, .int .i64 st2.2), (14, .own 77000), (131, .bool false)] [(9, .box 33 [.int .i64 (deeds.getD st1.2.2.2.toNat (0, 0, 0, 0)).1, .int .i64 (deeds.getD st1.2.2.2.toNat (0, 0, 0, 0)).2.1, .int .i64 (deeds.getD st1.2.2.2.toNat (0, 0, 0, 0)).2.2.1, .int .i64 (deeds.getD st1.2.2.2.toNat (0, 0, 0, 0)).2.2.2]), (107, .arr 3 (.int .i64) b5), (40000, .box 71 (.int .i64 (1 + (shape.1 % 4)) :: (.int .i64 (1 + (shape.2 % 4)) :: (cellsX T63 v0_5.2.2.1 ++ (cellsX T65 v0_5.2.2.2.1 ++ (cellsX T69 v0_5.2.2.2.2)))))), (77000, .arr 3 (.int .i64) v0_6.1)] ?_
                   refine AW.cond (b := false) rfl (fun hb88 => by cases hb88) (fun _ => ?_)
                   refine zm ?_
                   refine athen_n ?_
                   exact AW.weaken (zL [] [] []) (hk_lineallaw06_HazardLists_k4 _ h)
                 ·refine zS 4 [(1, .sl (.pair (.int .i64) (.pair (.int .i64) (.pair (.int .i64) (.int .i64)))) deeds), (5, .bp 40000 0), (6, .int .i64 (1 + (shape.1 % 4))), (7, .int .i64 (1 + (shape.2 % 4))), (8, .int .i64 st1.2.2.2), (9, .bp 9 0), (11, .int .i64 v0_5.2.1), (12, .own 107), (13, .int .i64 st2.2), (14, .own 77000), (110, .bool false), (114, .cv (undef))] [(9, .box 33 [.int .i64 (deeds.getD st1.2.2.2.toNat (0, 0, 0, 0)).1, .int .i64 (deeds.getD st1.2.2.2.toNat (0, 0, 0, 0)).2.1, .int .i64 (deeds.getD st1.2.2.2.toNat (0, 0, 0, 0)).2.2.1, .int .i64 (deeds.getD st1.2.2.2.toNat (0, 0, 0, 0)).2.2.2]), (107, .arr 3 (.int .i64) b5), (40000, .box 71 (.int .i64 (1 + (shape.1 % 4)) :: (.int .i64 (1 + (shape.2 % 4)) :: (cellsX T63 v0_5.2.2.1 ++ (cellsX T65 v0_5.2.2.2.1 ++ (cellsX T69 v0_5.2.2.2.2)))))), (77000, .arr 3 (.int .i64) v0_6.1)] ?_
                  refine zS 5 [(1, .sl (.pair (.int .i64) (.pair (.int .i64) (.pair (.int .i64) (.int .i64)))) deeds), (5, .bp 40000 0), (6, .int .i64 (1 + (shape.1 % 4))), (7, .int .i64 (1 + (shape.2 % 4))), (8, .int .i64 st1.2.2.2), (9, .bp 9 0), (11, .int .i64 v0_5.2.1), (12, .own 107), (13, .int .i64 st2.2), (14, .own 77000), (116, .bool false), (119, .cv (undef))] [(9, .box 33 [.int .i64 (deeds.getD st1.2.2.2.toNat (0, 0, 0, 0)).1, .int .i64 (deeds.getD st1.2.2.2.toNat (0, 0, 0, 0)).2.1, .int .i64 (deeds.getD st1.2.2.2.toNat (0, 0, 0, 0)).2.2.1, .int .i64 (deeds.getD st1.2.2.2.toNat (0, 0, 0, 0)).2.2.2]), (107, .arr 3 (.int .i64) b5), (40000, .box 71 (.int .i64 (1 + (shape.1 % 4)) :: (.int .i64 (1 + (shape.2 % 4)) :: (cellsX T63 v0_5.2.2.1 ++ (cellsX T65 v0_5.2.2.2.1 ++ (cellsX T69 v0_5.2.2.2.2)))))), (77000, .arr 3 (.int .i64) v0_6.1)] ?_
                  refine zS 4 [(1, .sl (.pair (.int .i64) (.pair (.int .i64) (.pair (.int .i64) (.int .i64)))) deeds), (5, .bp 40000 0), (6, .int .i64 (1 + (shape.1 % 4))), (7, .int .i64 (1 + (shape.2 % 4))), (8, .int .i64 st1.2.2.2), (9, .bp 9 0), (11, .int .i64 v0_5.2.1), (12, .own 107), (13, .int .i64 st2.2), (14, .own 77000), (116, .bool false), (120, .cv (undef)), (123, .cv (undef))] [(9, .box 33 [.int .i64 (deeds.getD st1.2.2.2.toNat (0, 0, 0, 0)).1, .int .i64 (deeds.getD st1.2.2.2.toNat (0, 0, 0, 0)).2.1, .int .i64 (deeds.getD st1.2.2.2.toNat (0, 0, 0, 0)).2.2.1, .int .i64 (deeds.getD st1.2.2.2.toNat (0, 0, 0, 0)).2.2.2]), (107, .arr 3 (.int .i64) b5), (40000, .box 71 (.int .i64 (1 + (shape.1 % 4)) :: (.int .i64 (1 + (shape.2 % 4)) :: (cellsX T63 v0_5.2.2.1 ++ (cellsX T65 v0_5.2.2.2.1 ++ (cellsX T69 v0_5.2.2.2.2)))))), (77000, .arr 3 (.int .i64) v0_6.1)] ?_
                  refine zS 4 [(1, .sl (.pair (.int .i64) (.pair (.int .i64) (.pair (.int .i64) (.int .i64)))) deeds), (5, .bp 40000 0), (6, .int .i64 (1 + (shape.1 % 4))), (7, .int .i64 (1 + (shape.2 % 4))), (8, .int .i64 st1.2.2.2), (9, .bp 9 0), (11, .int .i64 v0_5.2.1), (12, .own 107), (13, .int .i64 st2.2), (14, .own 77000), (116, .bool false), (120, .cv (undef)), (124, .cv (undef)), (126, .cv (undef)), (127, .cv (undef))] [(9, .box 33 [.int .i64 (deeds.getD st1.2.2.2.toNat (0, 0, 0, 0)).1, .int .i64 (deeds.getD st1.2.2.2.toNat (0, 0, 0, 0)).2.1, .int .i64 (deeds.getD st1.2.2.2.toNat (0, 0, 0, 0)).2.2.1, .int .i64 (deeds.getD st1.2.2.2.toNat (0, 0, 0, 0)).2.2.2]), (107, .arr 3 (.int .i64) b5), (40000, .box 71 (.int .i64 (1 + (shape.1 % 4)) :: (.int .i64 (1 + (shape.2 % 4)) :: (cellsX T63 v0_5.2.2.1 ++ (cellsX T65 v0_5.2.2.2.1 ++ (cellsX T69 v0_5.2.2.2.2)))))), (77000, .arr 3 (.int .i64) v0_6.1)] ?_
                  refine zB [(1, .sl (.pair (.int .i64) (.pair (.int .i64) (.pair (.int .i64) (.int .i64)))) deeds), (5, .bp 40000 0), (6, .int .i64 (1 + (shape.1 % 4))), (7, .int .i64 (1 + (shape.2 % 4))), (8, .int .i64 st1.2.2.2), (9, .bp 9 0), (11, .int .i64 v0_5.2.1), (12, .own 107), (13, .int .i64 st2.2), (14, .own 77000), (131, .bool false)] [(9, .box 33 [.int .i64 (deeds.getD st1.2.2.2.toNat (0, 0, 0, 0)).1, .int .i64 (deeds.getD st1.2.2.2.toNat (0, 0, 0, 0)).2.1, .int .i64 (deeds.getD st1.2.2.2.toNat (0, 0, 0, 0)).2.2.1, .int .i64 (deeds.getD st1.2.2.2.toNat (0, 0, 0, 0)).2.2.2]), (107, .arr 3 (.int .i64) b5), (40000, .box 71 (.int .i64 (1 + (shape.1 % 4)) :: (.int .i64 (1 + (shape.2 % 4)) :: (cellsX T63 v0_5.2.2.1 ++ (cellsX T65 v0_5.2.2.2.1 ++ (cellsX T69 v0_5.2.2.2.2)))))), (77000, .arr 3 (.int .i64) v0_6.1)] ?_
                  refine AW.cond (b := false) rfl (fun hb89 => by cases hb89) (fun _ => ?_)
                  refine zm ?_
                  refine athen_n ?_
                  exact AW.weaken (zL [] [] []) (hk_lineallaw06_HazardLists_k4 _ h)
               ·refine AW.seq ?_
                refine zo ?_
                refine zB [(1, .sl (.pair (.int .i64) (.pair (.int .i64) (.pair (.int .i64) (.int .i64)))) deeds), (5, .bp 40000 0), (6, .int .i64 (1 + (shape.1 % 4))), (7, .int .i64 (1 + (shape.2 % 4))), (8, .int .i64 st1.2.2.2), (9, .bp 9 0), (11, .int .i64 v0_5.2.1), (12, .own 107), (13, .int .i64 st2.2), (14, .own 77000), (16, .int .i64 0)] [(9, .box 33 [.int .i64 (deeds.getD st1.2.2.2.toNat (0, 0, 0, 0)).1, .int .i64 (deeds.getD st1.2.2.2.toNat (0, 0, 0, 0)).2.1, .int .i64 (deeds.getD st1.2.2.2.toNat (0, 0, 0, 0)).2.2.1, .int .i64 (deeds.getD st1.2.2.2.toNat (0, 0, 0, 0)).2.2.2]), (107, .arr 3 (.int .i64) st2.1), (40000, .box 71 (.int .i64 (1 + (shape.1 % 4)) :: (.int .i64 (1 + (shape.2 % 4)) :: (cellsX T63 v0_5.2.2.1 ++ (cellsX T65 v0_5.2.2.2.1 ++ (cellsX T69 v0_5.2.2.2.2)))))), (77000, .arr 3 (.int .i64) v0_6.1)] ?_
                refine AW.block ?_
                obtain ⟨rv94, hw90, ho91⟩ := Option.bind_eq_some_iff.1 h
                refine AW.loopO (lineallaw06_HazardLists_b3 shape v0_5 v0_6) (fun st3 => ⟨fr [(1, .sl (.pair (.int .i64) (.pair (.int .i64) (.pair (.int .i64) (.int .i64)))) deeds), (5, .bp 40000 0), (6, .int .i64 (1 + (shape.1 % 4))), (7, .int .i64 (1 + (shape.2 % 4))), (8, .int .i64 st1.2.2.2), (9, .bp 9 0), (11, .int .i64 v0_5.2.1), (12, .own 107), (13, .int .i64 st2.2), (14, .own 77000), (16, .int .i64 st3.2)], hpGet [(9, .box 33 [.int .i64 (deeds.getD st1.2.2.2.toNat (0, 0, 0, 0)).1, .int .i64 (deeds.getD st1.2.2.2.toNat (0, 0, 0, 0)).2.1, .int .i64 (deeds.getD st1.2.2.2.toNat (0, 0, 0, 0)).2.2.1, .int .i64 (deeds.getD st1.2.2.2.toNat (0, 0, 0, 0)).2.2.2]), (107, .arr 3 (.int .i64) st3.1), (40000, .box 71 (.int .i64 (1 + (shape.1 % 4)) :: (.int .i64 (1 + (shape.2 % 4)) :: (cellsX T63 v0_5.2.2.1 ++ (cellsX T65 v0_5.2.2.2.1 ++ (cellsX T69 v0_5.2.2.2.2)))))), (77000, .arr 3 (.int .i64) v0_6.1)], gt⟩) (st2.1, 0) hw90 (zL [] [] []) ?_
                as_aux_lemma =>
                 intro st3 x93 h hd92
                 unfold lineallaw06_HazardLists_b3 at h
                 refine AW.seq ?_
                 refine zo ?_
                 refine zB [(1, .sl (.pair (.int .i64) (.pair (.int .i64) (.pair (.int .i64) (.int .i64)))) deeds), (5, .bp 40000 0), (6, .int .i64 (1 + (shape.1 % 4))), (7, .int .i64 (1 + (shape.2 % 4))), (8, .int .i64 st1.2.2.2), (9, .bp 9 0), (11, .int .i64 v0_5.2.1), (12, .own 107), (13, .int .i64 st2.2), (14, .own 77000), (16, .int .i64 st3.2), (75, .bool (decide (st3.2 < (v0_6.1.length : Int))))] [(9, .box 33 [.int .i64 (deeds.getD st1.2.2.2.toNat (0, 0, 0, 0)).1, .int .i64 (deeds.getD st1.2.2.2.toNat (0, 0, 0, 0)).2.1, .int .i64 (deeds.getD st1.2.2.2.toNat (0, 0, 0, 0)).2.2.1, .int .i64 (deeds.getD st1.2.2.2.toNat (0, 0, 0, 0)).2.2.2]), (107, .arr 3 (.int .i64) st3.1), (40000, .box 71 (.int .i64 (1 + (shape.1 % 4)) :: (.int .i64 (1 + (shape.2 % 4)) :: (cellsX T63 v0_5.2.2.1 ++ (cellsX T65 v0_5.2.2.2.1 ++ (cellsX T69 v0_5.2.2.2.2)))))), (77000, .arr 3 (.int .i64) v0_6.1)] ?_
                 refine zQ h (fun hb95 h => ?_) (fun hb95 h => ?_)
                 ·refine zk ?_
                  refine AW.seq ?_
                  refine AW.block ?_
                  refine zo ?_
                  obtain ⟨c96, h⟩ := ck_some.1 h
                  obtain ⟨c97, h⟩ := ck_some.1 h
                  refine zS 5 [(1, .sl (.pair (.int .i64) (.pair (.int .i64) (.pair (.int .i64) (.int .i64)))) deeds), (5, .bp 40000 0), (6, .int .i64 (1 + (shape.1 % 4))), (7, .int .i64 (1 + (shape.2 % 4))), (8, .int .i64 st1.2.2.2), (9, .bp 9 0), (11, .int .i64 v0_5.2.1), (12, .own 107), (13, .int .i64 st2.2), (14, .own 77000), (16, .int .i64 st3.2), (79, .bp 40000 0), (83, .int .i64 (v0_6.1.getD st3.2.toNat 0))] [(9, .box 33 [.int .i64 (deeds.getD st1.2.2.2.toNat (0, 0, 0, 0)).1, .int .i64 (deeds.getD st1.2.2.2.toNat (0, 0, 0, 0)).2.1, .int .i64 (deeds.getD st1.2.2.2.toNat (0, 0, 0, 0)).2.2.1, .int .i64 (deeds.getD st1.2.2.2.toNat (0, 0, 0, 0)).2.2.2]), (107, .arr 3 (.int .i64) st3.1), (40000, .box 71 (.int .i64 (1 + (shape.1 % 4)) :: (.int .i64 (1 + (shape.2 % 4)) :: (cellsX T63 v0_5.2.2.1 ++ (cellsX T65 v0_5.2.2.2.1 ++ (cellsX T69 v0_5.2.2.2.2)))))), (77000, .arr 3 (.int .i64) v0_6.1)] ?_
                  obtain ⟨v0_7, hv98, h⟩ := Option.bind_eq_some_iff.1 h
                  refine zC [] [(1000, 40000)] (hc_hazard_Yard_State (v0_6.1.getD st3.2.toNat 0) ((1 + (shape.1 % 4)), (1 + (shape.2 % 4)), v0_5.2.2) hv98) [(1, .sl (.pair (.int .i64) (.pair (.int .i64) (.pair (.int .i64) (.int .i64)))) deeds), (5, .bp 40000 0), (6, .int .i64 (1 + (shape.1 % 4))), (7, .int .i64 (1 + (shape.2 % 4))), (8, .int .i64 st1.2.2.2), (9, .bp 9 0), (11, .int .i64 v0_5.2.1), (12, .own 107), (13, .int .i64 st2.2), (14, .own 77000), (16, .int .i64 st3.2), (84, .tup [.int .i64 v0_7.1, .int .i64 v0_7.2])] [(9, .box 33 [.int .i64 (deeds.getD st1.2.2.2.toNat (0, 0, 0, 0)).1, .int .i64 (deeds.getD st1.2.2.2.toNat (0, 0, 0, 0)).2.1, .int .i64 (deeds.getD st1.2.2.2.toNat (0, 0, 0, 0)).2.2.1, .int .i64 (deeds.getD st1.2.2.2.toNat (0, 0, 0, 0)).2.2.2]), (107, .arr 3 (.int .i64) st3.1), (40000, .box 71 (.int .i64 (1 + (shape.1 % 4)) :: (.int .i64 (1 + (shape.2 % 4)) :: (cellsX T63 v0_5.2.2.1 ++ (cellsX T65 v0_5.2.2.2.1 ++ (cellsX T69 v0_5.2.2.2.2)))))), (77000, .arr 3 (.int .i64) v0_6.1)] ?_
                  refine zB [(1, .sl (.pair (.int .i64) (.pair (.int .i64) (.pair (.int .i64) (.int .i64)))) deeds), (5, .bp 40000 0), (6, .int .i64 (1 + (shape.1 % 4))), (7, .int .i64 (1 + (shape.2 % 4))), (8, .int .i64 st1.2.2.2), (9, .bp 9 0), (11, .int .i64 v0_5.2.1), (12, .own 107), (13, .int .i64 st2.2), (14, .own 77000), (16, .int .i64 st3.2), (17, .int .i64 v0_7.1), (18, .int .i64 v0_7.2)] [(9, .box 33 [.int .i64 (deeds.getD st1.2.2.2.toNat (0, 0, 0, 0)).1, .int .i64 (deeds.getD st1.2.2.2.toNat (0, 0, 0, 0)).2.1, .int .i64 (deeds.getD st1.2.2.2.toNat (0, 0, 0, 0)).2.2.1, .int .i64 (deeds.getD st1.2.2.2.toNat (0, 0, 0, 0)).2.2.2]), (107, .arr 3 (.int .i64) st3.1), (40000, .box 71 (.int .i64 (1 + (shape.1 % 4)) :: (.int .i64 (1 + (shape.2 % 4)) :: (cellsX T63 v0_5.2.2.1 ++ (cellsX T65 v0_5.2.2.2.1 ++ (cellsX T69 v0_5.2.2.2.2)))))), (77000, .arr 3 (.int .i64) v0_6.1)] ?_
                  refine AW.seq ?_
                  refine zo ?_
                  refine zS 3 [(1, .sl (.pair (.int .i64) (.pair (.int .i64) (.pair (.int .i64) (.int .i64)))) deeds), (5, .bp 40000 0), (6, .int .i64 (1 + (shape.1 % 4))), (7, .int .i64 (1 + (shape.2 % 4))), (8, .int .i64 st1.2.2.2), (9, .bp 9 0), (11, .int .i64 v0_5.2.1), (12, .own 107), (13, .int .i64 st2.2), (14, .own 77000), (16, .int .i64 st3.2), (17, .int .i64 v0_7.1), (89, .bool (!(decide (v0_7.2 = 0))))] [(9, .box 33 [.int .i64 (deeds.getD st1.2.2.2.toNat (0, 0, 0, 0)).1, .int .i64 (deeds.getD st1.2.2.2.toNat (0, 0, 0, 0)).2.1, .int .i64 (deeds.getD st1.2.2.2.toNat (0, 0, 0, 0)).2.2.1, .int .i64 (deeds.getD st1.2.2.2.toNat (0, 0, 0, 0)).2.2.2]), (107, .arr 3 (.int .i64) st3.1), (40000, .box 71 (.int .i64 (1 + (shape.1 % 4)) :: (.int .i64 (1 + (shape.2 % 4)) :: (cellsX T63 v0_5.2.2.1 ++ (cellsX T65 v0_5.2.2.2.1 ++ (cellsX T69 v0_5.2.2.2.2)))))), (77000, .arr 3 (.int .i64) v0_6.1)] ?_
                  rcases zI h with ⟨hb99, h⟩ | ⟨hb99, h⟩
                  ·refine zS 5 [(1, .sl (.pair (.int .i64) (.pair (.int .i64) (.pair (.int .i64) (.int .i64)))) deeds), (5, .bp 40000 0), (6, .int .i64 (1 + (shape.1 % 4))), (7, .int .i64 (1 + (shape.2 % 4))), (8, .int .i64 st1.2.2.2), (9, .bp 9 0), (11, .int .i64 v0_5.2.1), (12, .own 107), (13, .int .i64 st2.2), (14, .own 77000), (16, .int .i64 st3.2), (93, .bool true), (94, .cv (undef))] [(9, .box 33 [.int .i64 (deeds.getD st1.2.2.2.toNat (0, 0, 0, 0)).1, .int .i64 (deeds.getD st1.2.2.2.toNat (0, 0, 0, 0)).2.1, .int .i64 (deeds.getD st1.2.2.2.toNat (0, 0, 0, 0)).2.2.1, .int .i64 (deeds.getD st1.2.2.2.toNat (0, 0, 0, 0)).2.2.2]), (107, .arr 3 (.int .i64) st3.1), (40000, .box 71 (.int .i64 (1 + (shape.1 % 4)) :: (.int .i64 (1 + (shape.2 % 4)) :: (cellsX T63 v0_5.2.2.1 ++ (cellsX T65 v0_5.2.2.2.1 ++ (cellsX T69 v0_5.2.2.2.2)))))), (77000, .arr 3 (.int .i64) v0_6.1)] ?_
                   refine zS 4 [(1, .sl (.pair (.int .i64) (.pair (.int .i64) (.pair (.int .i64) (.int .i64)))) deeds), (5, .bp 40000 0), (6, .int .i64 (1 + (shape.1 % 4))), (7, .int .i64 (1 + (shape.2 % 4))), (8, .int .i64 st1.2.2.2), (9, .bp 9 0), (11, .int .i64 v0_5.2.1), (12, .own 107), (13, .int .i64 st2.2), (14, .own 77000), (16, .int .i64 st3.2), (93, .bool true), (94, .cv (undef)), (98, .cv (undef))] [(9, .box 33 [.int .i64 (deeds.getD st1.2.2.2.toNat (0, 0, 0, 0)).1, .int .i64 (deeds.getD st1.2.2.2.toNat (0, 0, 0, 0)).2.1, .int .i64 (deeds.getD st1.2.2.2.toNat (0, 0, 0, 0)).2.2.1, .int .i64 (deeds.getD st1.2.2.2.toNat (0, 0, 0, 0)).2.2.2]), (107, .arr 3 (.int .i64) st3.1), (40000, .box 71 (.int .i64 (1 + (shape.1 % 4)) :: (.int .i64 (1 + (shape.2 % 4)) :: (cellsX T63 v0_5.2.2.1 ++ (cellsX T65 v0_5.2.2.2.1 ++ (cellsX T69 v0_5.2.2.2.2)))))), (77000, .arr 3 (.int .i64) v0_6.1)] ?_
                   refine zB [(1, .sl (.pair (.int .i64) (.pair (.int .i64) (.pair (.int .i64) (.int .i64)))) deeds), (5, .bp 40000 0), (6, .int .i64 (1 + (shape.1 % 4))), (7, .int .i64 (1 + (shape.2 % 4))), (8, .int .i64 st1.2.2.2), (9, .bp 9 0), (11, .int .i64 v0_5.2.1), (12, .own 107), (13, .int .i64 st2.2), (14, .own 77000), (16, .int .i64 st3.2), (100, .bool true)] [(9, .box 33 [.int .i64 (deeds.getD st1.2.2.2.toNat (0, 0, 0, 0)).1, .int .i64 (deeds.getD st1.2.2.2.toNat (0, 0, 0, 0)).2.1, .int .i64 (deeds.getD st1.2.2.2.toNat (0, 0, 0, 0)).2.2.1, .int .i64 (deeds.getD st1.2.2.2.toNat (0, 0, 0, 0)).2.2.2]), (107, .arr 3 (.int .i64) st3.1), (40000, .box 71 (.int .i64 (1 + (shape.1 % 4)) :: (.int .i64 (1 + (shape.2 % 4)) :: (cellsX T63 v0_5.2.2.1 ++ (cellsX T65 v0_5.2.2.2.1 ++ (cellsX T69 v0_5.2.2.2.2)))))), (77000, .arr 3 (.int .i64) v0_6.1)] ?_
                   refine AW.cond (b := true) rfl (fun _ => ?_) (fun hb100 => by cases hb100)
                   refine zo ?_
                   refine zB [(4, .bool false)] [] ?_
                   refine zr ?_
                   refine ablock_r ?_
                   refine athen_r ?_
                   obtain rfl := Option.some.inj h
                   try rw [← hd92 _ rfl] at ho91
                   have h := ho91
                   try simp only at h
                   refine athen_r ?_
                   refine ablock_r ?_
                   refine athen_r ?_
                   refine ablock_r ?_
                   refine athen_r ?_
                   obtain rfl := Option.some.inj h
                   try rw [← hd50 _ rfl] at ho49
                   have h := ho49
                   try simp only at h
                   refine athen_r ?_
                   refine ablock_r ?_
                   refine athen_r ?_
                   refine ablock_r ?_
                   refine athen_r ?_
                   obtain rfl := Option.some.inj h
                   try rw [← hd17 _ rfl] at ho16
                   have h := ho16
                   try simp only at h
                   refine athen_r ?_
                   refine ablock_r ?_
                   refine athen_r ?_
                   obtain rfl := Option.some.inj h
                   exact zR [] [] []
                  ·refine zS 4 [(1, .sl (.pair (.int .i64) (.pair (.int .i64) (.pair (.int .i64) (.int .i64)))) deeds), (5, .bp 40000 0), (6, .int .i64 (1 + (shape.1 % 4))), (7, .int .i64 (1 + (shape.2 % 4))), (8, .int .i64 st1.2.2.2), (9, .bp 9 0), (11, .int .i64 v0_5.2.1), (12, .own 107), (13, .int .i64 st2.2), (14, .own 77000), (16, .int .i64 st3.2), (93, .bool (!(decide (v0_7.1 = 2))))] [(9, .box 33 [.int .i64 (deeds.getD st1.2.2.2.toNat (0, 0, 0, 0)).1, .int .i64 (deeds.getD st1.2.2.2.toNat (0, 0, 0, 0)).2.1, .int .i64 (deeds.getD st1.2.2.2.toNat (0, 0, 0, 0)).2.2.1, .int .i64 (deeds.getD st1.2.2.2.toNat (0, 0, 0, 0)).2.2.2]), (107, .arr 3 (.int .i64) st3.1), (40000, .box 71 (.int .i64 (1 + (shape.1 % 4)) :: (.int .i64 (1 + (shape.2 % 4)) :: (cellsX T63 v0_5.2.2.1 ++ (cellsX T65 v0_5.2.2.2.1 ++ (cellsX T69 v0_5.2.2.2.2)))))), (77000, .arr 3 (.int .i64) v0_6.1)] ?_
                   rcases zI h with ⟨hb101, h⟩ | ⟨hb101, h⟩
                   ·refine zS 4 [(1, .sl (.pair (.int .i64) (.pair (.int .i64) (.pair (.int .i64) (.int .i64)))) deeds), (5, .bp 40000 0), (6, .int .i64 (1 + (shape.1 % 4))), (7, .int .i64 (1 + (shape.2 % 4))), (8, .int .i64 st1.2.2.2), (9, .bp 9 0), (11, .int .i64 v0_5.2.1), (12, .own 107), (13, .int .i64 st2.2), (14, .own 77000), (16, .int .i64 st3.2), (93, .bool true), (94, .cv (undef)), (97, .cv (undef))] [(9, .box 33 [.int .i64 (deeds.getD st1.2.2.2.toNat (0, 0, 0, 0)).1, .int .i64 (deeds.getD st1.2.2.2.toNat (0, 0, 0, 0)).2.1, .int .i64 (deeds.getD st1.2.2.2.toNat (0, 0, 0, 0)).2.2.1, .int .i64 (deeds.getD st1.2.2.2.toNat (0, 0, 0, 0)).2.2.2]), (107, .arr 3 (.int .i64) st3.1), (40000, .box 71 (.int .i64 (1 + (shape.1 % 4)) :: (.int .i64 (1 + (shape.2 % 4)) :: (cellsX T63 v0_5.2.2.1 ++ (cellsX T65 v0_5.2.2.2.1 ++ (cellsX T69 v0_5.2.2.2.2)))))), (77000, .arr 3 (.int .i64) v0_6.1)] ?_
                    refine zB [(1, .sl (.pair (.int .i64) (.pair (.int .i64) (.pair (.int .i64) (.int .i64)))) deeds), (5, .bp 40000 0), (6, .int .i64 (1 + (shape.1 % 4))), (7, .int .i64 (1 + (shape.2 % 4))), (8, .int .i64 st1.2.2.2), (9, .bp 9 0), (11, .int .i64 v0_5.2.1), (12, .own 107), (13, .int .i64 st2.2), (14, .own 77000), (16, .int .i64 st3.2), (100, .bool true)] [(9, .box 33 [.int .i64 (deeds.getD st1.2.2.2.toNat (0, 0, 0, 0)).1, .int .i64 (deeds.getD st1.2.2.2.toNat (0, 0, 0, 0)).2.1, .int .i64 (deeds.getD st1.2.2.2.toNat (0, 0, 0, 0)).2.2.1, .int .i64 (deeds.getD st1.2.2.2.toNat (0, 0, 0, 0)).2.2.2]), (107, .arr 3 (.int .i64) st3.1), (40000, .box 71 (.int .i64 (1 + (shape.1 % 4)) :: (.int .i64 (1 + (shape.2 % 4)) :: (cellsX T63 v0_5.2.2.1 ++ (cellsX T65 v0_5.2.2.2.1 ++ (cellsX T69 v0_5.2.2.2.2)))))), (77000, .arr 3 (.int .i64) v0_6.1)] ?_
                    refine AW.cond (b := true) rfl (fun _ => ?_) (fun hb102 => by cases hb102)
                    refine zo ?_
                    refine zB [(4, .bool false)] [] ?_
                    refine zr ?_
                    refine ablock_r ?_
                    refine athen_r ?_
                    obtain rfl := Option.some.inj h
                    try rw [← hd92 _ rfl] at ho91
                    have h := ho91
                    try simp only at h
                    refine athen_r ?_
                    refine ablock_r ?_
                    refine athen_r ?_
                    refine ablock_r ?_
                    refine athen_r ?_
                    obtain rfl := Option.some.inj h
                    try rw [← hd50 _ rfl] at ho49
                    have h := ho49
                    try simp only at h
                    refine athen_r ?_
                    refine ablock_r ?_
                    refine athen_r ?_
                    refine ablock_r ?_
                    refine athen_r ?_
                    obtain rfl := Option.some.inj h
                    try rw [← hd17 _ rfl] at ho16
                    have h := ho16
                    try simp only at h
                    refine athen_r ?_
                    refine ablock_r ?_
                    refine athen_r ?_
                    obtain rfl := Option.some.inj h
                    exact zR [] [] []
                   ·obtain ⟨c103, h⟩ := ck_some.1 h
                    obtain ⟨c104, h⟩ := ck_some.1 h
                    refine zS 5 [(1, .sl (.pair (.int .i64) (.pair (.int .i64) (.pair (.int .i64) (.int .i64)))) deeds), (5, .bp 40000 0), (6, .int .i64 (1 + (shape.1 % 4))), (7, .int .i64 (1 + (shape.2 % 4))), (8, .int .i64 st1.2.2.2), (9, .bp 9 0), (11, .int .i64 v0_5.2.1), (12, .own 107), (13, .int .i64 st2.2), (14, .own 77000), (16, .int .i64 st3.2), (93, .bool false), (94, .own 107), (98, .int .i64 (v0_6.1.getD st3.2.toNat 0))] [(9, .box 33 [.int .i64 (deeds.getD st1.2.2.2.toNat (0, 0, 0, 0)).1, .int .i64 (deeds.getD st1.2.2.2.toNat (0, 0, 0, 0)).2.1, .int .i64 (deeds.getD st1.2.2.2.toNat (0, 0, 0, 0)).2.2.1, .int .i64 (deeds.getD st1.2.2.2.toNat (0, 0, 0, 0)).2.2.2]), (107, .arr 3 (.int .i64) st3.1), (40000, .box 71 (.int .i64 (1 + (shape.1 % 4)) :: (.int .i64 (1 + (shape.2 % 4)) :: (cellsX T63 v0_5.2.2.1 ++ (cellsX T65 v0_5.2.2.2.1 ++ (cellsX T69 v0_5.2.2.2.2)))))), (77000, .arr 3 (.int .i64) v0_6.1)] ?_
                    obtain ⟨v0_8, hv105, h⟩ := Option.bind_eq_some_iff.1 h
                    refine zG [107] [] (hc_lineallaw06_has st3.1 (v0_6.1.getD st3.2.toNat 0) hv105) [(1, .sl (.pair (.int .i64) (.pair (.int .i64) (.pair (.int .i64) (.int .i64)))) deeds), (5, .bp 40000 0), (6, .int .i64 (1 + (shape.1 % 4))), (7, .int .i64 (1 + (shape.2 % 4))), (8, .int .i64 st1.2.2.2), (9, .bp 9 0), (11, .int .i64 v0_5.2.1), (12, .own 107), (13, .int .i64 st2.2), (14, .own 77000), (16, .int .i64 st3.2), (93, .bool false), (99, .bool v0_8)] [(9, .box 33 [.int .i64 (deeds.getD st1.2.2.2.toNat (0, 0, 0, 0)).1, .int .i64 (deeds.getD st1.2.2.2.toNat (0, 0, 0, 0)).2.1, .int .i64 (deeds.getD st1.2.2.2.toNat (0, 0, 0, 0)).2.2.1, .int .i64 (deeds.getD st1.2.2.2.toNat (0, 0, 0, 0)).2.2.2]), (107, .arr 3 (.int .i64) st3.1), (40000, .box 71 (.int .i64 (1 + (shape.1 % 4)) :: (.int .i64 (1 + (shape.2 % 4)) :: (cellsX T63 v0_5.2.2.1 ++ (cellsX T65 v0_5.2.2.2.1 ++ (cellsX T69 v0_5.2.2.2.2)))))), (77000, .arr 3 (.int .i64) v0_6.1)] ?_
                    refine zB [(1, .sl (.pair (.int .i64) (.pair (.int .i64) (.pair (.int .i64) (.int .i64)))) deeds), (5, .bp 40000 0), (6, .int .i64 (1 + (shape.1 % 4))), (7, .int .i64 (1 + (shape.2 % 4))), (8, .int .i64 st1.2.2.2), (9, .bp 9 0), (11, .int .i64 v0_5.2.1), (12, .own 107), (13, .int .i64 st2.2), (14, .own 77000), (16, .int .i64 st3.2), (100, .bool v0_8)] [(9, .box 33 [.int .i64 (deeds.getD st1.2.2.2.toNat (0, 0, 0, 0)).1, .int .i64 (deeds.getD st1.2.2.2.toNat (0, 0, 0, 0)).2.1, .int .i64 (deeds.getD st1.2.2.2.toNat (0, 0, 0, 0)).2.2.1, .int .i64 (deeds.getD st1.2.2.2.toNat (0, 0, 0, 0)).2.2.2]), (107, .arr 3 (.int .i64) st3.1), (40000, .box 71 (.int .i64 (1 + (shape.1 % 4)) :: (.int .i64 (1 + (shape.2 % 4)) :: (cellsX T63 v0_5.2.2.1 ++ (cellsX T65 v0_5.2.2.2.1 ++ (cellsX T69 v0_5.2.2.2.2)))))), (77000, .arr 3 (.int .i64) v0_6.1)] ?_
                    refine zQ h (fun hb106 h => ?_) (fun hb106 h => ?_)
                    ·refine zo ?_
                     refine zB [(4, .bool false)] [] ?_
                     refine zr ?_
                     refine ablock_r ?_
                     refine athen_r ?_
                     obtain rfl := Option.some.inj h
                     try rw [← hd92 _ rfl] at ho91
                     have h := ho91
                     try simp only at h
                     refine athen_r ?_
                     refine ablock_r ?_
                     refine athen_r ?_
                     refine ablock_r ?_
                     refine athen_r ?_
                     obtain rfl := Option.some.inj h
                     try rw [← hd50 _ rfl] at ho49
                     have h := ho49
                     try simp only at h
                     refine athen_r ?_
                     refine ablock_r ?_
                     refine athen_r ?_
                     refine ablock_r ?_
                     refine athen_r ?_
                     obtain rfl := Option.some.inj h
                     try rw [← hd17 _ rfl] at ho16
                     have h := ho16
                     try simp only at h
                     refine athen_r ?_
                     refine ablock_r ?_
                     refine athen_r ?_
                     obtain rfl := Option.some.inj h
                     exact zR [] [] []
                    ·refine zk ?_
                     refine AW.ops ?_
                     obtain ⟨c107, h⟩ := ck_some.1 h
                     obtain ⟨c108, h⟩ := ck_some.1 h
                     refine zS 5 [(1, .sl (.pair (.int .i64) (.pair (.int .i64) (.pair (.int .i64) (.int .i64)))) deeds), (5, .bp 40000 0), (6, .int .i64 (1 + (shape.1 % 4))), (7, .int .i64 (1 + (shape.2 % 4))), (8, .int .i64 st1.2.2.2), (9, .bp 9 0), (11, .int .i64 v0_5.2.1), (13, .int .i64 st2.2), (14, .own 77000), (16, .int .i64 st3.2), (101, .own 107), (105, .int .i64 (v0_6.1.getD st3.2.toNat 0))] [(9, .box 33 [.int .i64 (deeds.getD st1.2.2.2.toNat (0, 0, 0, 0)).1, .int .i64 (deeds.getD st1.2.2.2.toNat (0, 0, 0, 0)).2.1, .int .i64 (deeds.getD st1.2.2.2.toNat (0, 0, 0, 0)).2.2.1, .int .i64 (deeds.getD st1.2.2.2.toNat (0, 0, 0, 0)).2.2.2]), (107, .arr 3 (.int .i64) st3.1), (40000, .box 71 (.int .i64 (1 + (shape.1 % 4)) :: (.int .i64 (1 + (shape.2 % 4)) :: (cellsX T63 v0_5.2.2.1 ++ (cellsX T65 v0_5.2.2.2.1 ++ (cellsX T69 v0_5.2.2.2.2)))))), (77000, .arr 3 (.int .i64) v0_6.1)] ?_
                     obtain ⟨c109, h⟩ := ck_some.1 h
                     refine zA [(1, .sl (.pair (.int .i64) (.pair (.int .i64) (.pair (.int .i64) (.int .i64)))) deeds), (5, .bp 40000 0), (6, .int .i64 (1 + (shape.1 % 4))), (7, .int .i64 (1 + (shape.2 % 4))), (8, .int .i64 st1.2.2.2), (9, .bp 9 0), (11, .int .i64 v0_5.2.1), (12, .own 107), (13, .int .i64 st2.2), (14, .own 77000), (16, .int .i64 st3.2)] [(9, .box 33 [.int .i64 (deeds.getD st1.2.2.2.toNat (0, 0, 0, 0)).1, .int .i64 (deeds.getD st1.2.2.2.toNat (0, 0, 0, 0)).2.1, .int .i64 (deeds.getD st1.2.2.2.toNat (0, 0, 0, 0)).2.2.1, .int .i64 (deeds.getD st1.2.2.2.toNat (0, 0, 0, 0)).2.2.2]), (107, .arr 3 (.int .i64) (st3.1 ++ [(v0_6.1.getD st3.2.toNat 0)])), (40000, .box 71 (.int .i64 (1 + (shape.1 % 4)) :: (.int .i64 (1 + (shape.2 % 4)) :: (cellsX T63 v0_5.2.2.1 ++ (cellsX T65 v0_5.2.2.2.1 ++ (cellsX T69 v0_5.2.2.2.2)))))), (77000, .arr 3 (.int .i64) v0_6.1)] ?_
                     refine ablock_n ?_
                     refine athen_n ?_
                     refine AW.ops ?_
                     obtain ⟨c110, h⟩ := ck_some.1 h
                     refine zA [(1, .sl (.pair (.int .i64) (.pair (.int .i64) (.pair (.int .i64) (.int .i64)))) deeds), (5, .bp 40000 0), (6, .int .i64 (1 + (shape.1 % 4))), (7, .int .i64 (1 + (shape.2 % 4))), (8, .int .i64 st1.2.2.2), (9, .bp 9 0), (11, .int .i64 v0_5.2.1), (12, .own 107), (13, .int .i64 st2.2), (14, .own 77000), (16, .int .i64 (st3.2 + 1))] [(9, .box 33 [.int .i64 (deeds.getD st1.2.2.2.toNat (0, 0, 0, 0)).1, .int .i64 (deeds.getD st1.2.2.2.toNat (0, 0, 0, 0)).2.1, .int .i64 (deeds.getD st1.2.2.2.toNat (0, 0, 0, 0)).2.2.1, .int .i64 (deeds.getD st1.2.2.2.toNat (0, 0, 0, 0)).2.2.2]), (107, .arr 3 (.int .i64) (st3.1 ++ [(v0_6.1.getD st3.2.toNat 0)])), (40000, .box 71 (.int .i64 (1 + (shape.1 % 4)) :: (.int .i64 (1 + (shape.2 % 4)) :: (cellsX T63 v0_5.2.2.1 ++ (cellsX T65 v0_5.2.2.2.1 ++ (cellsX T69 v0_5.2.2.2.2)))))), (77000, .arr 3 (.int .i64) v0_6.1)] ?_
                     obtain rfl := Option.some.inj h
                     exact ⟨_, rfl, zL [] [] []⟩
                 ·refine AW.exit ?_
                  refine athen_e ?_
                  obtain rfl := Option.some.inj h
                  rw [← hd92 _ rfl] at ho91
                  have h := ho91
                  try simp only at h
                  refine athen_e ?_
                  refine ablock_s ?_
                  refine athen_n ?_
                  exact AW.weaken (zL [] [] []) (hk_lineallaw06_HazardLists_k5 _ h)
            ·refine AW.exit ?_
             refine athen_e ?_
             obtain rfl := Option.some.inj h
             rw [← hd50 _ rfl] at ho49
             have h := ho49
             try simp only at h
             refine athen_e ?_
             refine ablock_s ?_
             refine athen_n ?_
             exact AW.weaken (zL [] [] []) (hk_lineallaw06_HazardLists_k3 _ h)
        ·refine AW.exit ?_
         refine athen_e ?_
         obtain rfl := Option.some.inj h
         try rw [← hd17 _ rfl] at ho16
         have h := ho16
         try simp only at h
         refine athen_e ?_
         refine ablock_s ?_
         refine athen_n ?_
         exact AW.weaken (zL [] [] []) (hk_lineallaw06_HazardLists_k1 () h)

end Go.Proofs.YtcckpmeepcoafaaDoor
