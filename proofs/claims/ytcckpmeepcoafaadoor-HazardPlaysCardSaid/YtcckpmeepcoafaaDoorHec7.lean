/-
  Made by wip/tool/dc.py out of the print of the program: contracts.
-/
import Derived.Test.YtcckpmeepcoafaaDoorHzp
import Derived.Test.YtcckpmeepcoafaaDoorShz
import Derived.Test.YtcckpmeepcoafaaDoorAvd
import Derived.Test.YtcckpmeepcoafaaDoorHec1
import Derived.Test.YtcckpmeepcoafaaDoorHec6
namespace Go.Proofs.YtcckpmeepcoafaaDoor
open Go.RowKit

set_option linter.unusedSimpArgs false
set_option linter.unusedVariables false
set_option linter.constructorNameAsVariable false

set_option maxRecDepth 100000
set_option maxHeartbeats 40000000

theorem hc_hazard_Play (threads : Int) (size : Int) (deeds : List (Int × Int × Int × Int)) {r : (List Int) × Int} (h : hazard_Play threads size deeds = some r) : HC Tryd.prog 41 [] [.int .i64 threads, .int .i64 size, .sl (.pair (.int .i64) (.pair (.int .i64) (.pair (.int .i64) (.int .i64)))) deeds] [(2000, .arr 3 (.int .i64) r.1)] (.tup [.own 2000, .int .i64 r.2]) := by
 unfold hazard_Play at h
 refine zH Tryd.func41 [.tmp 6, .tmp 7] 49 ?_
 refine zo ?_
 refine zB [(0, .int .i64 threads), (1, .int .i64 size), (2, .sl (.pair (.int .i64) (.pair (.int .i64) (.pair (.int .i64) (.int .i64)))) deeds)] [] ?_
 refine zo ?_
 refine zS 2 [(2, .sl (.pair (.int .i64) (.pair (.int .i64) (.pair (.int .i64) (.int .i64)))) deeds), (16, .int .i64 threads), (17, .int .i64 size)] [] ?_
 obtain ⟨v0, hv1, h⟩ := Option.bind_eq_some_iff.1 h
 rcases v0 with v0_2 | v0_3
 ·try simp only at h
  refine zC [] [] (hc_hazard_New_a0 threads size hv1) [(2, .sl (.pair (.int .i64) (.pair (.int .i64) (.pair (.int .i64) (.int .i64)))) deeds), (18, .tup [.cv (.pointer none), .int .i64 2])] [] ?_
  refine zB [(2, .sl (.pair (.int .i64) (.pair (.int .i64) (.pair (.int .i64) (.int .i64)))) deeds), (8, .cv (.pointer none)), (9, .int .i64 2)] [] ?_
  refine AW.seq ?_
  refine zo ?_
  refine zB [(2, .sl (.pair (.int .i64) (.pair (.int .i64) (.pair (.int .i64) (.int .i64)))) deeds), (8, .cv (.pointer none)), (9, .int .i64 2), (22, .bool true)] [] ?_
  refine AW.cond (b := true) rfl (fun _ => ?_) (fun hb2 => by cases hb2)
  refine zo ?_
  refine zB [(6, .cv (.slice none 0 0)), (7, .int .i64 2)] [] ?_
  refine zr ?_
  obtain rfl := Option.some.inj h
  exact zR [] [2000] []
 ·try simp only at h
  refine zC [] [] (hc_hazard_New_a1 threads size hv1) [(2, .sl (.pair (.int .i64) (.pair (.int .i64) (.pair (.int .i64) (.int .i64)))) deeds), (18, .tup [.bp 28000 0, .int .i64 0])] [(28000, .box 71 (.int .i64 threads :: (.int .i64 size :: (cellsX T63 (Ty.dflt T63) ++ (cellsX T65 v0_3 ++ (cellsX T69 (Ty.dflt T69)))))))] ?_
  refine zB [(2, .sl (.pair (.int .i64) (.pair (.int .i64) (.pair (.int .i64) (.int .i64)))) deeds), (8, .bp 28000 0), (9, .int .i64 0)] [(28000, .box 71 (.int .i64 threads :: (.int .i64 size :: (cellsX T63 (Ty.dflt T63) ++ (cellsX T65 v0_3 ++ (cellsX T69 (Ty.dflt T69)))))))] ?_
  refine AW.seq ?_
  refine zo ?_
  refine zB [(2, .sl (.pair (.int .i64) (.pair (.int .i64) (.pair (.int .i64) (.int .i64)))) deeds), (8, .bp 28000 0), (9, .int .i64 0), (22, .bool false)] [(28000, .box 71 (.int .i64 threads :: (.int .i64 size :: (cellsX T63 (Ty.dflt T63) ++ (cellsX T65 v0_3 ++ (cellsX T69 (Ty.dflt T69)))))))] ?_
  refine AW.cond (b := false) rfl (fun hb3 => by cases hb3) (fun _ => ?_)
  refine zk ?_
  refine AW.seq ?_
  refine zo ?_
  refine zB [(2, .sl (.pair (.int .i64) (.pair (.int .i64) (.pair (.int .i64) (.int .i64)))) deeds), (8, .bp 28000 0), (26, .bool (decide (100 < (deeds.length : Int))))] [(28000, .box 71 (.int .i64 threads :: (.int .i64 size :: (cellsX T63 (Ty.dflt T63) ++ (cellsX T65 v0_3 ++ (cellsX T69 (Ty.dflt T69)))))))] ?_
  refine zQ h (fun hb4 h => ?_) (fun hb4 h => ?_)
  ·refine zo ?_
   refine zB [(6, .cv (.slice none 0 0)), (7, .int .i64 2)] [] ?_
   refine zr ?_
   obtain rfl := Option.some.inj h
   exact zR [] [2000] []
  ·refine zk ?_
   refine zo ?_
   refine zB [(2, .sl (.pair (.int .i64) (.pair (.int .i64) (.pair (.int .i64) (.int .i64)))) deeds), (8, .bp 28000 0), (10, .cv (.slice none 0 0))] [(28000, .box 71 (.int .i64 threads :: (.int .i64 size :: (cellsX T63 (Ty.dflt T63) ++ (cellsX T65 v0_3 ++ (cellsX T69 (Ty.dflt T69)))))))] ?_
   refine AW.have1 (fun b1 : (List Int) => hazard_Play_k1 b1 = some r) (fun b1 => ⟨fr [(10, .own 46)], hpGet [(46, .arr 3 (.int .i64) b1)], gt⟩) (fun b1 h => ?_) (fun hk_hazard_Play_k1 => ?_)
   ·as_aux_lemma =>
     unfold hazard_Play_k1 at h
     refine zo ?_
     refine zB [(6, .own 46), (7, .int .i64 0)] [(46, .arr 3 (.int .i64) b1)] ?_
     refine AW.ret ?_
     obtain rfl := Option.some.inj h
     exact zR [] [] [(2000, 46)]
   ·refine AW.seq ?_
    refine zo ?_
    refine zB [(8, .bp 28000 0), (10, .cv (.slice none 0 0)), (27, .sl (.pair (.int .i64) (.pair (.int .i64) (.pair (.int .i64) (.int .i64)))) deeds), (28, .int .i64 (deeds.length : Int)), (29, .int .i64 0)] [(28000, .box 71 (.int .i64 threads :: (.int .i64 size :: (cellsX T63 (Ty.dflt T63) ++ (cellsX T65 v0_3 ++ (cellsX T69 (Ty.dflt T69)))))))] ?_
    refine AW.block ?_
    obtain ⟨rv9, hw5, ho6⟩ := Option.bind_eq_some_iff.1 h
    refine AW.loopO (hazard_Play_b1 threads size deeds) (fun st1 => ⟨fr [(8, .bp 28000 0), (10, .own 46), (27, .sl (.pair (.int .i64) (.pair (.int .i64) (.pair (.int .i64) (.int .i64)))) deeds), (28, .int .i64 (deeds.length : Int)), (29, .int .i64 st1.2.2.2.2)], hpGet [(46, .arr 3 (.int .i64) st1.2.2.2.1), (28000, .box 71 (.int .i64 threads :: (.int .i64 size :: (cellsX T63 st1.1 ++ (cellsX T65 st1.2.1 ++ (cellsX T69 st1.2.2.1))))))], gt⟩) ((Ty.dflt T63), v0_3, (Ty.dflt T69), [], 0) hw5 (zL [] [46] []) ?_
    as_aux_lemma =>
     intro st1 x8 h hd7
     unfold hazard_Play_b1 at h
     refine zo ?_
     refine zB [(8, .bp 28000 0), (10, .own 46), (27, .sl (.pair (.int .i64) (.pair (.int .i64) (.pair (.int .i64) (.int .i64)))) deeds), (28, .int .i64 (deeds.length : Int)), (29, .int .i64 st1.2.2.2.2), (30, .bool (decide (st1.2.2.2.2 < (deeds.length : Int))))] [(46, .arr 3 (.int .i64) st1.2.2.2.1), (28000, .box 71 (.int .i64 threads :: (.int .i64 size :: (cellsX T63 st1.1 ++ (cellsX T65 st1.2.1 ++ (cellsX T69 st1.2.2.1))))))] ?_
     refine AW.seq ?_
     refine zQ h (fun hb10 h => ?_) (fun hb10 h => ?_)
     ·refine zk ?_
      refine AW.seq ?_
      refine AW.block ?_
      refine zo ?_
      obtain ⟨c11, h⟩ := ck_some.1 h
      obtain ⟨c12, h⟩ := ck_some.1 h
      refine zB [(8, .bp 28000 0), (10, .own 46), (12, .bp 12 0), (27, .sl (.pair (.int .i64) (.pair (.int .i64) (.pair (.int .i64) (.int .i64)))) deeds), (28, .int .i64 (deeds.length : Int)), (29, .int .i64 st1.2.2.2.2)] [(12, .box 33 [.int .i64 (deeds.getD st1.2.2.2.2.toNat (0, 0, 0, 0)).1, .int .i64 (deeds.getD st1.2.2.2.2.toNat (0, 0, 0, 0)).2.1, .int .i64 (deeds.getD st1.2.2.2.2.toNat (0, 0, 0, 0)).2.2.1, .int .i64 (deeds.getD st1.2.2.2.2.toNat (0, 0, 0, 0)).2.2.2]), (46, .arr 3 (.int .i64) st1.2.2.2.1), (28000, .box 71 (.int .i64 threads :: (.int .i64 size :: (cellsX T63 st1.1 ++ (cellsX T65 st1.2.1 ++ (cellsX T69 st1.2.2.1))))))] ?_
      refine zo ?_
      refine zS 2 [(8, .bp 28000 0), (10, .own 46), (27, .sl (.pair (.int .i64) (.pair (.int .i64) (.pair (.int .i64) (.int .i64)))) deeds), (28, .int .i64 (deeds.length : Int)), (29, .int .i64 st1.2.2.2.2), (34, .bp 28000 0), (35, .agg [.int .i64 (deeds.getD st1.2.2.2.2.toNat (0, 0, 0, 0)).1, .int .i64 (deeds.getD st1.2.2.2.2.toNat (0, 0, 0, 0)).2.1, .int .i64 (deeds.getD st1.2.2.2.2.toNat (0, 0, 0, 0)).2.2.1, .int .i64 (deeds.getD st1.2.2.2.2.toNat (0, 0, 0, 0)).2.2.2])] [(46, .arr 3 (.int .i64) st1.2.2.2.1), (28000, .box 71 (.int .i64 threads :: (.int .i64 size :: (cellsX T63 st1.1 ++ (cellsX T65 st1.2.1 ++ (cellsX T69 st1.2.2.1))))))] ?_
      obtain ⟨v0_4, hv13, h⟩ := Option.bind_eq_some_iff.1 h
      refine zC [] [(1000, 28000)] (hc_hazard_Yard_Do (deeds.getD st1.2.2.2.2.toNat (0, 0, 0, 0)) (threads, size, st1.1, st1.2.1, st1.2.2.1) hv13) [(8, .bp 28000 0), (10, .own 46), (27, .sl (.pair (.int .i64) (.pair (.int .i64) (.pair (.int .i64) (.int .i64)))) deeds), (28, .int .i64 (deeds.length : Int)), (29, .int .i64 st1.2.2.2.2), (36, .tup [.int .i64 v0_4.1, .int .i64 v0_4.2.1])] [(46, .arr 3 (.int .i64) st1.2.2.2.1), (28000, .box 71 (.int .i64 threads :: (.int .i64 size :: (cellsX T63 v0_4.2.2.1 ++ (cellsX T65 v0_4.2.2.2.1 ++ (cellsX T69 v0_4.2.2.2.2))))))] ?_
      refine zB [(8, .bp 28000 0), (10, .own 46), (13, .int .i64 v0_4.1), (14, .int .i64 v0_4.2.1), (27, .sl (.pair (.int .i64) (.pair (.int .i64) (.pair (.int .i64) (.int .i64)))) deeds), (28, .int .i64 (deeds.length : Int)), (29, .int .i64 st1.2.2.2.2)] [(46, .arr 3 (.int .i64) st1.2.2.2.1), (28000, .box 71 (.int .i64 threads :: (.int .i64 size :: (cellsX T63 v0_4.2.2.1 ++ (cellsX T65 v0_4.2.2.2.1 ++ (cellsX T69 v0_4.2.2.2.2))))))] ?_
      refine AW.seq ?_
      refine zo ?_
      refine zB [(8, .bp 28000 0), (10, .own 46), (13, .int .i64 v0_4.1), (14, .int .i64 v0_4.2.1), (27, .sl (.pair (.int .i64) (.pair (.int .i64) (.pair (.int .i64) (.int .i64)))) deeds), (28, .int .i64 (deeds.length : Int)), (29, .int .i64 st1.2.2.2.2), (40, .bool (!(decide (v0_4.2.1 = 0))))] [(46, .arr 3 (.int .i64) st1.2.2.2.1), (28000, .box 71 (.int .i64 threads :: (.int .i64 size :: (cellsX T63 v0_4.2.2.1 ++ (cellsX T65 v0_4.2.2.2.1 ++ (cellsX T69 v0_4.2.2.2.2))))))] ?_
      refine zQ h (fun hb14 h => ?_) (fun hb14 h => ?_)
      ·refine AW.ops ?_
       obtain ⟨c15, h⟩ := ck_some.1 h
       refine zB [(8, .bp 28000 0), (10, .own 46), (13, .int .i64 (-v0_4.2.1)), (27, .sl (.pair (.int .i64) (.pair (.int .i64) (.pair (.int .i64) (.int .i64)))) deeds), (28, .int .i64 (deeds.length : Int)), (29, .int .i64 st1.2.2.2.2)] [(46, .arr 3 (.int .i64) st1.2.2.2.1), (28000, .box 71 (.int .i64 threads :: (.int .i64 size :: (cellsX T63 v0_4.2.2.1 ++ (cellsX T65 v0_4.2.2.2.1 ++ (cellsX T69 v0_4.2.2.2.2))))))] ?_
       refine AW.ops ?_
       obtain ⟨c16, h⟩ := ck_some.1 h
       refine zA [(8, .bp 28000 0), (10, .own 46), (27, .sl (.pair (.int .i64) (.pair (.int .i64) (.pair (.int .i64) (.int .i64)))) deeds), (28, .int .i64 (deeds.length : Int)), (29, .int .i64 st1.2.2.2.2)] [(46, .arr 3 (.int .i64) (st1.2.2.2.1 ++ [(-v0_4.2.1)])), (28000, .box 71 (.int .i64 threads :: (.int .i64 size :: (cellsX T63 v0_4.2.2.1 ++ (cellsX T65 v0_4.2.2.2.1 ++ (cellsX T69 v0_4.2.2.2.2))))))] ?_
       refine ablock_n ?_
       refine athen_n ?_
       refine AW.ops ?_
       obtain ⟨c17, h⟩ := ck_some.1 h
       refine zA [(8, .bp 28000 0), (10, .own 46), (27, .sl (.pair (.int .i64) (.pair (.int .i64) (.pair (.int .i64) (.int .i64)))) deeds), (28, .int .i64 (deeds.length : Int)), (29, .int .i64 (st1.2.2.2.2 + 1))] [(46, .arr 3 (.int .i64) (st1.2.2.2.1 ++ [(-v0_4.2.1)])), (28000, .box 71 (.int .i64 threads :: (.int .i64 size :: (cellsX T63 v0_4.2.2.1 ++ (cellsX T65 v0_4.2.2.2.1 ++ (cellsX T69 v0_4.2.2.2.2))))))] ?_
       obtain rfl := Option.some.inj h
       exact ⟨_, rfl, zL [] [] []⟩
      ·refine zk ?_
       refine AW.ops ?_
       obtain ⟨c18, h⟩ := ck_some.1 h
       refine zA [(8, .bp 28000 0), (10, .own 46), (27, .sl (.pair (.int .i64) (.pair (.int .i64) (.pair (.int .i64) (.int .i64)))) deeds), (28, .int .i64 (deeds.length : Int)), (29, .int .i64 st1.2.2.2.2)] [(46, .arr 3 (.int .i64) (st1.2.2.2.1 ++ [v0_4.1])), (28000, .box 71 (.int .i64 threads :: (.int .i64 size :: (cellsX T63 v0_4.2.2.1 ++ (cellsX T65 v0_4.2.2.2.1 ++ (cellsX T69 v0_4.2.2.2.2))))))] ?_
       refine ablock_n ?_
       refine athen_n ?_
       refine AW.ops ?_
       obtain ⟨c19, h⟩ := ck_some.1 h
       refine zA [(8, .bp 28000 0), (10, .own 46), (27, .sl (.pair (.int .i64) (.pair (.int .i64) (.pair (.int .i64) (.int .i64)))) deeds), (28, .int .i64 (deeds.length : Int)), (29, .int .i64 (st1.2.2.2.2 + 1))] [(46, .arr 3 (.int .i64) (st1.2.2.2.1 ++ [v0_4.1])), (28000, .box 71 (.int .i64 threads :: (.int .i64 size :: (cellsX T63 v0_4.2.2.1 ++ (cellsX T65 v0_4.2.2.2.1 ++ (cellsX T69 v0_4.2.2.2.2))))))] ?_
       obtain rfl := Option.some.inj h
       exact ⟨_, rfl, zL [] [] []⟩
     ·refine AW.exit ?_
      refine athen_e ?_
      obtain rfl := Option.some.inj h
      rw [← hd7 _ rfl] at ho6
      have h := ho6
      refine athen_e ?_
      refine ablock_s ?_
      refine athen_n ?_
      exact AW.weaken (zL [] [] []) (hk_hazard_Play_k1 _ h)

theorem hc_linealref06_SameInts (a : List Int) (b : List Int) {r : Bool} (h : linealref06_SameInts a b = some r) : HC Tryd.prog 26 [] [.sl (.int .i64) a, .sl (.int .i64) b] [] (.bool r) := by
 unfold linealref06_SameInts at h
 refine zH Tryd.func26 [.tmp 4] 26 ?_
 refine zo ?_
 refine zB [(0, .sl (.int .i64) a), (1, .sl (.int .i64) b)] [] ?_
 refine AW.seq ?_
 refine zo ?_
 refine zB [(0, .sl (.int .i64) a), (1, .sl (.int .i64) b), (10, .bool (!(decide ((a.length : Int) = (b.length : Int)))))] [] ?_
 refine zQ h (fun hb1 h => ?_) (fun hb1 h => ?_)
 ·refine zo ?_
  refine zB [(4, .bool false)] [] ?_
  refine zr ?_
  obtain rfl := Option.some.inj h
  exact zR [] [] []
 ·refine zk ?_
  refine AW.have1 (fun _ : Unit => linealref06_SameInts_k1 = some r) (fun _ => ⟨fr [], hpGet [], gt⟩) (fun _ h => ?_) (fun hk_linealref06_SameInts_k1 => ?_)
  ·as_aux_lemma =>
    unfold linealref06_SameInts_k1 at h
    refine zo ?_
    refine zB [(4, .bool true)] [] ?_
    refine AW.ret ?_
    obtain rfl := Option.some.inj h
    exact zR [] [] []
  ·refine AW.seq ?_
   refine zo ?_
   refine zB [(0, .sl (.int .i64) a), (1, .sl (.int .i64) b), (5, .int .i64 0)] [] ?_
   refine AW.block ?_
   obtain ⟨rv6, hw2, ho3⟩ := Option.bind_eq_some_iff.1 h
   refine AW.loopO (linealref06_SameInts_b1 a b) (fun st1 => ⟨fr [(0, .sl (.int .i64) a), (1, .sl (.int .i64) b), (5, .int .i64 st1)], hpGet [], gt⟩) 0 hw2 (zL [] [] []) ?_
   as_aux_lemma =>
    intro st1 x5 h hd4
    unfold linealref06_SameInts_b1 at h
    refine AW.seq ?_
    refine zo ?_
    refine zB [(0, .sl (.int .i64) a), (1, .sl (.int .i64) b), (5, .int .i64 st1), (14, .bool (decide (st1 < (a.length : Int))))] [] ?_
    refine zQ h (fun hb7 h => ?_) (fun hb7 h => ?_)
    ·refine zk ?_
     refine AW.seq ?_
     refine AW.block ?_
     refine AW.seq ?_
     refine AW.draw tab_ok mixed_ok [] [] (by decide) (lex_fast (by kernel_rfl)) ?_
     as_aux_lemma =>
      obtain ⟨c9, h⟩ := ck_some.1 h
      obtain ⟨c10, h⟩ := ck_some.1 h
      refine adops_cut 6 (fun K' hK8 => ?_)
      try dsimp only [List.drop_succ_cons, List.drop_zero, List.take_succ_cons, List.take_zero]
      simp only [go_sem, hb1, hb7]
      repeat with_reducible refine zN ?_
      refine hK8 _ ?_
      as_aux_lemma =>
       obtain ⟨c12, h⟩ := ck_some.1 h
       obtain ⟨c13, h⟩ := ck_some.1 h
       refine adops_cut 3 (fun K' hK11 => ?_)
       try dsimp only [List.drop_succ_cons, List.drop_zero, List.take_succ_cons, List.take_zero]
       simp only [go_sem, hb1, hb7]
       repeat with_reducible refine zN ?_
       refine hK11 _ ?_
       refine adops_nil ?_
       refine athen_n ?_
       refine zV [(0, .sl (.int .i64) a), (1, .sl (.int .i64) b), (5, .int .i64 st1), (25, .bool (!(decide ((a.getD st1.toNat 0) = (b.getD st1.toNat 0)))))] [] gt ?_
       as_aux_lemma =>
        refine zQ h (fun hb14 h => ?_) (fun hb14 h => ?_)
        ·refine zo ?_
         refine zB [(4, .bool false)] [] ?_
         refine AW.ret ?_
         refine ablock_r ?_
         refine athen_r ?_
         obtain rfl := Option.some.inj h
         try rw [← hd4 _ rfl] at ho3
         have h := ho3
         try simp only at h
         refine athen_r ?_
         refine ablock_r ?_
         refine athen_r ?_
         obtain rfl := Option.some.inj h
         exact zR [] [] []
        ·refine zm ?_
         refine athen_n ?_
         refine AW.ops ?_
         obtain ⟨c15, h⟩ := ck_some.1 h
         refine zA [(0, .sl (.int .i64) a), (1, .sl (.int .i64) b), (5, .int .i64 (st1 + 1))] [] ?_
         obtain rfl := Option.some.inj h
         exact ⟨_, rfl, zL [] [] []⟩
    ·refine AW.exit ?_
     refine athen_e ?_
     obtain rfl := Option.some.inj h
     try rw [← hd4 _ rfl] at ho3
     have h := ho3
     try simp only at h
     refine athen_e ?_
     refine ablock_s ?_
     refine athen_n ?_
     exact AW.weaken (zL [] [] []) (hk_linealref06_SameInts_k1 () h)

theorem hc_lineallaw06_Sane {r : Bool} (h : lineallaw06_Sane = some r) : HC Tryd.prog 14 [] [] [] (.bool r) := by
 unfold lineallaw06_Sane at h
 refine zH Tryd.func14 [.tmp 0] 19 ?_
 refine zo ?_
 refine zB [] [] ?_
 refine zo ?_
 refine zS 5 [(8, .own 8)] [(8, .arr 33 (.pair (.int .i64) (.pair (.int .i64) (.pair (.int .i64) (.int .i64)))) [(1, 0, 0, 0), (1, 0, 0, 0), (4, 0, 0, 0), (4, 0, 1, 0)])] ?_
 obtain ⟨v0, hv1, h⟩ := Option.bind_eq_some_iff.1 h
 refine zC [8] [] (hc_hazard_Play 2 2 [(1, 0, 0, 0), (1, 0, 0, 0), (4, 0, 0, 0), (4, 0, 1, 0)] hv1) [(9, .tup [.own 19000, .int .i64 v0.2])] [(19000, .arr 3 (.int .i64) v0.1)] ?_
 refine zB [(1, .own 19000), (2, .int .i64 v0.2)] [(19000, .arr 3 (.int .i64) v0.1)] ?_
 refine zo ?_
 refine zS 3 [(1, .own 19000), (14, .bool (decide (v0.2 = 0)))] [(19000, .arr 3 (.int .i64) v0.1)] ?_
 rcases zI h with ⟨hb2, h⟩ | ⟨hb2, h⟩
 ·refine zS 2 [(14, .bool true), (15, .own 19000), (16, .own 16)] [(16, .arr 3 (.int .i64) [0, 1, 0, 2]), (19000, .arr 3 (.int .i64) v0.1)] ?_
  obtain ⟨v0_2, hv3, h⟩ := Option.bind_eq_some_iff.1 h
  refine zG [16, 19000] [] (hc_linealref06_SameInts v0.1 [0, 1, 0, 2] hv3) [(14, .bool true), (17, .bool v0_2)] [] ?_
  refine zB [(0, .bool v0_2)] [] ?_
  refine AW.ret ?_
  obtain rfl := Option.some.inj h
  exact zR [] [] []
 ·refine zB [(0, .bool false)] [] ?_
  refine AW.ret ?_
  obtain rfl := Option.some.inj h
  exact zR [] [] []

theorem hc_linealref06_within (lo : Int) (n : Int) (hi : Int) {r : Bool} (h : linealref06_within lo n hi = some r) : HC Tryd.prog 66 [] [.int .i64 lo, .int .i64 n, .int .i64 hi] [] (.bool r) := by
 unfold linealref06_within at h
 refine zH Tryd.func66 [.tmp 6] 15 ?_
 refine zo ?_
 refine zB [(0, .int .i64 lo), (1, .int .i64 n), (2, .int .i64 hi)] [] ?_
 refine zo ?_
 refine zS 4 [(1, .int .i64 n), (2, .int .i64 hi), (10, .bool (decide (lo ≤ n)))] [] ?_
 rcases zI h with ⟨hb1, h⟩ | ⟨hb1, h⟩
 ·refine zB [(6, .bool (decide (n ≤ hi)))] [] ?_
  refine AW.ret ?_
  obtain rfl := Option.some.inj h
  exact zR [] [] []
 ·refine zB [(6, .bool false)] [] ?_
  refine AW.ret ?_
  obtain rfl := Option.some.inj h
  exact zR [] [] []

theorem hc_linealref06_IsNew (threads : Int) (size : Int) {r : Bool} (h : linealref06_IsNew threads size = some r) : HC Tryd.prog 42 [] [.int .i64 threads, .int .i64 size] [] (.bool r) := by
 unfold linealref06_IsNew at h
 refine zH Tryd.func42 [.tmp 4] 11 ?_
 refine zo ?_
 refine zB [(0, .int .i64 threads), (1, .int .i64 size)] [] ?_
 refine zo ?_
 refine zS 1 [(1, .int .i64 size), (5, .int .i64 threads)] [] ?_
 obtain ⟨v0, hv1, h⟩ := Option.bind_eq_some_iff.1 h
 refine zC [] [] (hc_linealref06_within 1 threads 4 hv1) [(1, .int .i64 size), (6, .bool v0)] [] ?_
 refine zS 1 [(1, .int .i64 size), (7, .bool v0)] [] ?_
 rcases zI h with ⟨hb2, h⟩ | ⟨hb2, h⟩
 ·refine zS 1 [(7, .bool true), (8, .int .i64 size)] [] ?_
  obtain ⟨v0_2, hv3, h⟩ := Option.bind_eq_some_iff.1 h
  refine zG [] [] (hc_linealref06_within 1 size 4 hv3) [(7, .bool true), (9, .bool v0_2)] [] ?_
  refine zB [(4, .bool v0_2)] [] ?_
  refine AW.ret ?_
  obtain rfl := Option.some.inj h
  exact zR [] [] []
 ·refine zB [(4, .bool false)] [] ?_
  refine AW.ret ?_
  obtain rfl := Option.some.inj h
  exact zR [] [] []

theorem hc_linealref06_New (threads : Int) (size : Int) {r : (List (Int × Int)) × (List (List Int))} (h : linealref06_New threads size = some r) : HC Tryd.prog 16 [] [.int .i64 threads, .int .i64 size] [(2000, .box 77 (.int .i64 threads :: (.int .i64 size :: (cellsX T66 (Ty.dflt T66) ++ (.own 2001 :: (.own 2002 :: [])))))), (2001, .arr 64 (.pair (.int .i64) (.int .i64)) r.1), (2002, .arr 45 (.sl (.int .i64)) r.2)] (.bp 2000 0) := by
 unfold linealref06_New at h
 refine zH Tryd.func16 [.tmp 4] 36 ?_
 refine zo ?_
 refine zB [(0, .int .i64 threads), (1, .int .i64 size)] [] ?_
 refine zo ?_
 refine zB [(0, .int .i64 threads), (5, .bp 10 0)] [(10, .box 77 (.int .i64 threads :: (.int .i64 size :: (cellsX T66 (Ty.dflt T66) ++ (.cv (.slice none 0 0) :: (.cv (.slice none 0 0) :: []))))))] ?_
 refine AW.have1 (fun b1 : (List (Int × Int)) × (List (List Int)) => linealref06_New_k1 b1 = some r) (fun b1 => ⟨fr [(5, .bp 10 0)], hpGet [(10, .box 77 (.int .i64 threads :: (.int .i64 size :: (cellsX T66 (Ty.dflt T66) ++ (.own 23 :: (.own 32 :: [])))))), (23, .arr 64 (.pair (.int .i64) (.int .i64)) b1.1), (32, .arr 45 (.sl (.int .i64)) b1.2)], gt⟩) (fun b1 h => ?_) (fun hk_linealref06_New_k1 => ?_)
 ·as_aux_lemma =>
   unfold linealref06_New_k1 at h
   refine zo ?_
   refine zB [(4, .bp 10 0)] [(10, .box 77 (.int .i64 threads :: (.int .i64 size :: (cellsX T66 (Ty.dflt T66) ++ (.own 23 :: (.own 32 :: [])))))), (23, .arr 64 (.pair (.int .i64) (.int .i64)) b1.1), (32, .arr 45 (.sl (.int .i64)) b1.2)] ?_
   refine AW.ret ?_
   obtain rfl := Option.some.inj h
   exact zR [] [] [(2000, 10), (2001, 23), (2002, 32)]
 ·refine AW.seq ?_
  refine zo ?_
  refine zB [(0, .int .i64 threads), (5, .bp 10 0), (6, .int .i64 0)] [(10, .box 77 (.int .i64 threads :: (.int .i64 size :: (cellsX T66 (Ty.dflt T66) ++ (.cv (.slice none 0 0) :: (.cv (.slice none 0 0) :: []))))))] ?_
  refine AW.block ?_
  obtain ⟨rv5, hw1, ho2⟩ := Option.bind_eq_some_iff.1 h
  refine AW.loopO (linealref06_New_b1 threads) (fun st1 => ⟨fr [(0, .int .i64 threads), (5, .bp 10 0), (6, .int .i64 st1.2.2)], hpGet [(10, .box 77 (.int .i64 threads :: (.int .i64 size :: (cellsX T66 (Ty.dflt T66) ++ (.own 23 :: (.own 32 :: [])))))), (23, .arr 64 (.pair (.int .i64) (.int .i64)) st1.1), (32, .arr 45 (.sl (.int .i64)) st1.2.1)], gt⟩) ([], [], 0) hw1 (zL [] [23, 32] []) ?_
  as_aux_lemma =>
   intro st1 x4 h hd3
   unfold linealref06_New_b1 at h
   refine AW.seq ?_
   refine zo ?_
   refine zB [(0, .int .i64 threads), (5, .bp 10 0), (6, .int .i64 st1.2.2), (13, .bool (decide (st1.2.2 < threads)))] [(10, .box 77 (.int .i64 threads :: (.int .i64 size :: (cellsX T66 (Ty.dflt T66) ++ (.own 23 :: (.own 32 :: [])))))), (23, .arr 64 (.pair (.int .i64) (.int .i64)) st1.1), (32, .arr 45 (.sl (.int .i64)) st1.2.1)] ?_
   refine zQ h (fun hb6 h => ?_) (fun hb6 h => ?_)
   ·refine zk ?_
    refine AW.seq ?_
    refine AW.block ?_
    refine zo ?_
    refine zS 5 [(0, .int .i64 threads), (5, .bp 10 0), (6, .int .i64 st1.2.2), (16, .bp 10 0), (20, .own 23)] [(10, .box 77 (.int .i64 threads :: (.int .i64 size :: (cellsX T66 (Ty.dflt T66) ++ (.own 23 :: (.own 32 :: [])))))), (23, .arr 64 (.pair (.int .i64) (.int .i64)) st1.1), (32, .arr 45 (.sl (.int .i64)) st1.2.1)] ?_
    obtain ⟨c7, h⟩ := ck_some.1 h
    refine zS 5 [(0, .int .i64 threads), (5, .bp 10 0), (6, .int .i64 st1.2.2), (23, .own 23), (25, .bp 10 10)] [(10, .box 77 (.int .i64 threads :: (.int .i64 size :: (cellsX T66 (Ty.dflt T66) ++ (.un :: (.own 32 :: [])))))), (23, .arr 64 (.pair (.int .i64) (.int .i64)) (st1.1 ++ [((-1), (-1))])), (32, .arr 45 (.sl (.int .i64)) st1.2.1)] ?_
    refine zB [(0, .int .i64 threads), (5, .bp 10 0), (6, .int .i64 st1.2.2)] [(10, .box 77 (.int .i64 threads :: (.int .i64 size :: (cellsX T66 (Ty.dflt T66) ++ (.own 23 :: (.own 32 :: [])))))), (23, .arr 64 (.pair (.int .i64) (.int .i64)) (st1.1 ++ [((-1), (-1))])), (32, .arr 45 (.sl (.int .i64)) st1.2.1)] ?_
    refine AW.ops ?_
    refine zS 5 [(0, .int .i64 threads), (5, .bp 10 0), (6, .int .i64 st1.2.2), (26, .bp 10 0), (30, .own 32)] [(10, .box 77 (.int .i64 threads :: (.int .i64 size :: (cellsX T66 (Ty.dflt T66) ++ (.own 23 :: (.own 32 :: [])))))), (23, .arr 64 (.pair (.int .i64) (.int .i64)) (st1.1 ++ [((-1), (-1))])), (32, .arr 45 (.sl (.int .i64)) st1.2.1)] ?_
    obtain ⟨c8, h⟩ := ck_some.1 h
    refine zA [(0, .int .i64 threads), (5, .bp 10 0), (6, .int .i64 st1.2.2)] [(10, .box 77 (.int .i64 threads :: (.int .i64 size :: (cellsX T66 (Ty.dflt T66) ++ (.own 23 :: (.own 32 :: [])))))), (23, .arr 64 (.pair (.int .i64) (.int .i64)) (st1.1 ++ [((-1), (-1))])), (32, .arr 45 (.sl (.int .i64)) (st1.2.1 ++ [[]]))] ?_
    refine ablock_n ?_
    refine athen_n ?_
    refine AW.ops ?_
    obtain ⟨c9, h⟩ := ck_some.1 h
    refine zA [(0, .int .i64 threads), (5, .bp 10 0), (6, .int .i64 (st1.2.2 + 1))] [(10, .box 77 (.int .i64 threads :: (.int .i64 size :: (cellsX T66 (Ty.dflt T66) ++ (.own 23 :: (.own 32 :: [])))))), (23, .arr 64 (.pair (.int .i64) (.int .i64)) (st1.1 ++ [((-1), (-1))])), (32, .arr 45 (.sl (.int .i64)) (st1.2.1 ++ [[]]))] ?_
    obtain rfl := Option.some.inj h
    exact ⟨_, rfl, zL [] [] []⟩
   ·refine AW.exit ?_
    refine athen_e ?_
    obtain rfl := Option.some.inj h
    rw [← hd3 _ rfl] at ho2
    have h := ho2
    refine athen_e ?_
    refine ablock_s ?_
    refine athen_n ?_
    exact AW.weaken (zL [] [] []) (hk_linealref06_New_k1 _ h)

theorem hc_linealref06_Yard_isThread (t : Int) (y : Int) (y_2 : Int) (y_3 : (El T66)) (y_4 : List (Int × Int)) (y_5 : List (List Int)) {r : Bool} (h : linealref06_Yard_isThread t y y_2 y_3 y_4 y_5 = some r) : HC Tryd.prog 57 [(1000, .box 77 (.int .i64 y :: (.int .i64 y_2 :: (cellsX T66 y_3 ++ (.own 1001 :: (.own 1002 :: [])))))), (1001, .arr 64 (.pair (.int .i64) (.int .i64)) y_4), (1002, .arr 45 (.sl (.int .i64)) y_5)] [.bp 1000 0, .int .i64 t] [(1000, .box 77 (.int .i64 y :: (.int .i64 y_2 :: (cellsX T66 y_3 ++ (.own 1001 :: (.own 1002 :: [])))))), (1001, .arr 64 (.pair (.int .i64) (.int .i64)) y_4), (1002, .arr 45 (.sl (.int .i64)) y_5)] (.bool r) := by
 unfold linealref06_Yard_isThread at h
 refine zH Tryd.func57 [.tmp 4] 12 ?_
 refine zo ?_
 refine zB [(0, .bp 1000 0), (1, .int .i64 t)] [(1000, .box 77 (.int .i64 y :: (.int .i64 y_2 :: (cellsX T66 y_3 ++ (.own 1001 :: (.own 1002 :: [])))))), (1001, .arr 64 (.pair (.int .i64) (.int .i64)) y_4), (1002, .arr 45 (.sl (.int .i64)) y_5)] ?_
 refine zo ?_
 refine zS 5 [(5, .int .i64 t), (9, .int .i64 y)] [(1000, .box 77 (.int .i64 y :: (.int .i64 y_2 :: (cellsX T66 y_3 ++ (.own 1001 :: (.own 1002 :: [])))))), (1001, .arr 64 (.pair (.int .i64) (.int .i64)) y_4), (1002, .arr 45 (.sl (.int .i64)) y_5)] ?_
 obtain ⟨c1, h⟩ := ck_some.1 h
 refine zS 1 [(5, .int .i64 t), (10, .int .i64 (y - 1))] [(1000, .box 77 (.int .i64 y :: (.int .i64 y_2 :: (cellsX T66 y_3 ++ (.own 1001 :: (.own 1002 :: [])))))), (1001, .arr 64 (.pair (.int .i64) (.int .i64)) y_4), (1002, .arr 45 (.sl (.int .i64)) y_5)] ?_
 obtain ⟨v0, hv2, h⟩ := Option.bind_eq_some_iff.1 h
 refine zC [] [] (hc_linealref06_within 0 t (y - 1) hv2) [(11, .bool v0)] [(1000, .box 77 (.int .i64 y :: (.int .i64 y_2 :: (cellsX T66 y_3 ++ (.own 1001 :: (.own 1002 :: [])))))), (1001, .arr 64 (.pair (.int .i64) (.int .i64)) y_4), (1002, .arr 45 (.sl (.int .i64)) y_5)] ?_
 refine zB [(4, .bool v0)] [(1000, .box 77 (.int .i64 y :: (.int .i64 y_2 :: (cellsX T66 y_3 ++ (.own 1001 :: (.own 1002 :: [])))))), (1001, .arr 64 (.pair (.int .i64) (.int .i64)) y_4), (1002, .arr 45 (.sl (.int .i64)) y_5)] ?_
 refine AW.ret ?_
 obtain rfl := Option.some.inj h
 exact zR [] [] []

theorem hc_linealref06_Yard_Take (thread : Int) (y : Int) (y_2 : Int) (y_3 : (El T66)) (y_4 : List (Int × Int)) (y_5 : List (List Int)) {r : Int × Int × (El T66)} (h : linealref06_Yard_Take thread y y_2 y_3 y_4 y_5 = some r) : HC Tryd.prog 38 [(1000, .box 77 (.int .i64 y :: (.int .i64 y_2 :: (cellsX T66 y_3 ++ (.own 1001 :: (.own 1002 :: [])))))), (1001, .arr 64 (.pair (.int .i64) (.int .i64)) y_4), (1002, .arr 45 (.sl (.int .i64)) y_5)] [.bp 1000 0, .int .i64 thread] [(1000, .box 77 (.int .i64 y :: (.int .i64 y_2 :: (cellsX T66 r.2.2 ++ (.own 1001 :: (.own 1002 :: [])))))), (1001, .arr 64 (.pair (.int .i64) (.int .i64)) y_4), (1002, .arr 45 (.sl (.int .i64)) y_5)] (.tup [.int .i64 r.1, .int .i64 r.2.1]) := by
 unfold linealref06_Yard_Take at h
 refine zH Tryd.func38 [.tmp 4, .tmp 5] 28 ?_
 refine zo ?_
 refine zB [(0, .bp 1000 0), (1, .int .i64 thread)] [(1000, .box 77 (.int .i64 y :: (.int .i64 y_2 :: (cellsX T66 y_3 ++ (.own 1001 :: (.own 1002 :: [])))))), (1001, .arr 64 (.pair (.int .i64) (.int .i64)) y_4), (1002, .arr 45 (.sl (.int .i64)) y_5)] ?_
 refine AW.seq ?_
 refine zo ?_
 refine zS 2 [(0, .bp 1000 0), (7, .bp 1000 0), (8, .int .i64 thread)] [(1000, .box 77 (.int .i64 y :: (.int .i64 y_2 :: (cellsX T66 y_3 ++ (.own 1001 :: (.own 1002 :: [])))))), (1001, .arr 64 (.pair (.int .i64) (.int .i64)) y_4), (1002, .arr 45 (.sl (.int .i64)) y_5)] ?_
 obtain ⟨v0, hv1, h⟩ := Option.bind_eq_some_iff.1 h
 refine zC [] [(1000, 1000), (1001, 1001), (1002, 1002)] (hc_linealref06_Yard_isThread thread y y_2 y_3 y_4 y_5 hv1) [(0, .bp 1000 0), (9, .bool v0)] [(1000, .box 77 (.int .i64 y :: (.int .i64 y_2 :: (cellsX T66 y_3 ++ (.own 1001 :: (.own 1002 :: [])))))), (1001, .arr 64 (.pair (.int .i64) (.int .i64)) y_4), (1002, .arr 45 (.sl (.int .i64)) y_5)] ?_
 refine zB [(0, .bp 1000 0), (10, .bool (!v0))] [(1000, .box 77 (.int .i64 y :: (.int .i64 y_2 :: (cellsX T66 y_3 ++ (.own 1001 :: (.own 1002 :: [])))))), (1001, .arr 64 (.pair (.int .i64) (.int .i64)) y_4), (1002, .arr 45 (.sl (.int .i64)) y_5)] ?_
 refine zQ h (fun hb2 h => ?_) (fun hb2 h => ?_)
 ·refine zo ?_
  refine zB [(4, .int .i64 0), (5, .int .i64 2)] [(1000, .box 77 (.int .i64 y :: (.int .i64 y_2 :: (cellsX T66 y_3 ++ (.own 1001 :: (.own 1002 :: [])))))), (1001, .arr 64 (.pair (.int .i64) (.int .i64)) y_4), (1002, .arr 45 (.sl (.int .i64)) y_5)] ?_
  refine zr ?_
  obtain rfl := Option.some.inj h
  exact zR [] [] []
 ·refine zk ?_
  refine AW.have1 (fun _ : Unit => linealref06_Yard_Take_k1 y_3 = some r) (fun _ => ⟨fr [], hpGet [(1000, .box 77 (.int .i64 y :: (.int .i64 y_2 :: (cellsX T66 y_3 ++ (.own 1001 :: (.own 1002 :: [])))))), (1001, .arr 64 (.pair (.int .i64) (.int .i64)) y_4), (1002, .arr 45 (.sl (.int .i64)) y_5)], gt⟩) (fun _ h => ?_) (fun hk_linealref06_Yard_Take_k1 => ?_)
  ·as_aux_lemma =>
    unfold linealref06_Yard_Take_k1 at h
    refine zo ?_
    refine zB [(4, .int .i64 0), (5, .int .i64 5)] [(1000, .box 77 (.int .i64 y :: (.int .i64 y_2 :: (cellsX T66 y_3 ++ (.own 1001 :: (.own 1002 :: [])))))), (1001, .arr 64 (.pair (.int .i64) (.int .i64)) y_4), (1002, .arr 45 (.sl (.int .i64)) y_5)] ?_
    refine AW.ret ?_
    obtain rfl := Option.some.inj h
    exact zR [] [] []
  ·refine AW.seq ?_
   refine zo ?_
   refine zB [(0, .bp 1000 0), (6, .int .i64 0)] [(1000, .box 77 (.int .i64 y :: (.int .i64 y_2 :: (cellsX T66 y_3 ++ (.own 1001 :: (.own 1002 :: [])))))), (1001, .arr 64 (.pair (.int .i64) (.int .i64)) y_4), (1002, .arr 45 (.sl (.int .i64)) y_5)] ?_
   refine AW.block ?_
   obtain ⟨rv7, hw3, ho4⟩ := Option.bind_eq_some_iff.1 h
   refine AW.loopO (linealref06_Yard_Take_b1 y_3) (fun st1 => ⟨fr [(0, .bp 1000 0), (6, .int .i64 st1)], hpGet [(1000, .box 77 (.int .i64 y :: (.int .i64 y_2 :: (cellsX T66 y_3 ++ (.own 1001 :: (.own 1002 :: [])))))), (1001, .arr 64 (.pair (.int .i64) (.int .i64)) y_4), (1002, .arr 45 (.sl (.int .i64)) y_5)], gt⟩) 0 hw3 (zL [] [] []) ?_
   as_aux_lemma =>
    intro st1 x6 h hd5
    unfold linealref06_Yard_Take_b1 at h
    refine AW.seq ?_
    refine zo ?_
    refine zB [(0, .bp 1000 0), (6, .int .i64 st1), (12, .bool (decide (st1 < 8)))] [(1000, .box 77 (.int .i64 y :: (.int .i64 y_2 :: (cellsX T66 y_3 ++ (.own 1001 :: (.own 1002 :: [])))))), (1001, .arr 64 (.pair (.int .i64) (.int .i64)) y_4), (1002, .arr 45 (.sl (.int .i64)) y_5)] ?_
    refine zQ h (fun hb8 h => ?_) (fun hb8 h => ?_)
    ·refine zk ?_
     refine AW.seq ?_
     refine AW.block ?_
     refine zo ?_
     obtain ⟨c9, h⟩ := ck_some.1 h
     obtain ⟨c10, h⟩ := ck_some.1 h
     refine zS 5 [(0, .bp 1000 0), (6, .int .i64 st1), (19, .bp 1000 (2 + st1.toNat * 1))] [(1000, .box 77 (.int .i64 y :: (.int .i64 y_2 :: (cellsX T66 y_3 ++ (.own 1001 :: (.own 1002 :: [])))))), (1001, .arr 64 (.pair (.int .i64) (.int .i64)) y_4), (1002, .arr 45 (.sl (.int .i64)) y_5)] ?_
     have hx11 : (st1.toNat * 1) < 8 := by omega
     refine zB [(0, .bp 1000 0), (6, .int .i64 st1), (21, .bool (decide ((intAt T66 y_3 (st1.toNat * 1)) = 0)))] [(1000, .box 77 (.int .i64 y :: (.int .i64 y_2 :: (cellsX T66 y_3 ++ (.own 1001 :: (.own 1002 :: [])))))), (1001, .arr 64 (.pair (.int .i64) (.int .i64)) y_4), (1002, .arr 45 (.sl (.int .i64)) y_5)] ?_
     refine zQ h (fun hb12 h => ?_) (fun hb12 h => ?_)
     ·refine zo ?_
      obtain ⟨c13, h⟩ := ck_some.1 h
      obtain ⟨c14, h⟩ := ck_some.1 h
      refine zS 5 [(6, .int .i64 st1), (26, .bp 1000 (2 + st1.toNat * 1))] [(1000, .box 77 (.int .i64 y :: (.int .i64 y_2 :: (cellsX T66 y_3 ++ (.own 1001 :: (.own 1002 :: [])))))), (1001, .arr 64 (.pair (.int .i64) (.int .i64)) y_4), (1002, .arr 45 (.sl (.int .i64)) y_5)] ?_
      have hx15 : (st1.toNat * 1) < 8 := by omega
      refine zB [(6, .int .i64 st1)] [(1000, .box 77 (.int .i64 y :: (.int .i64 y_2 :: (cellsX T66 (setInt T66 y_3 (st1.toNat * 1) 1) ++ (.own 1001 :: (.own 1002 :: [])))))), (1001, .arr 64 (.pair (.int .i64) (.int .i64)) y_4), (1002, .arr 45 (.sl (.int .i64)) y_5)] ?_
      refine zo ?_
      refine zB [(4, .int .i64 st1), (5, .int .i64 0)] [(1000, .box 77 (.int .i64 y :: (.int .i64 y_2 :: (cellsX T66 (setInt T66 y_3 (st1.toNat * 1) 1) ++ (.own 1001 :: (.own 1002 :: [])))))), (1001, .arr 64 (.pair (.int .i64) (.int .i64)) y_4), (1002, .arr 45 (.sl (.int .i64)) y_5)] ?_
      refine AW.ret ?_
      refine ablock_r ?_
      refine athen_r ?_
      obtain rfl := Option.some.inj h
      rw [← hd5 _ rfl] at ho4
      have h := ho4
      try simp only at h
      refine athen_r ?_
      refine ablock_r ?_
      refine athen_r ?_
      obtain rfl := Option.some.inj h
      exact zR [] [] []
     ·refine zm ?_
      refine athen_n ?_
      refine AW.ops ?_
      obtain ⟨c16, h⟩ := ck_some.1 h
      refine zA [(0, .bp 1000 0), (6, .int .i64 (st1 + 1))] [(1000, .box 77 (.int .i64 y :: (.int .i64 y_2 :: (cellsX T66 y_3 ++ (.own 1001 :: (.own 1002 :: [])))))), (1001, .arr 64 (.pair (.int .i64) (.int .i64)) y_4), (1002, .arr 45 (.sl (.int .i64)) y_5)] ?_
      obtain rfl := Option.some.inj h
      exact ⟨_, rfl, zL [] [] []⟩
    ·refine AW.exit ?_
     refine athen_e ?_
     obtain rfl := Option.some.inj h
     try rw [← hd5 _ rfl] at ho4
     have h := ho4
     try simp only at h
     refine athen_e ?_
     refine ablock_s ?_
     refine athen_n ?_
     exact AW.weaken (zL [] [] []) (hk_linealref06_Yard_Take_k1 () h)

theorem hc_linealref06_isSlot (s : Int) {r : Bool} (h : linealref06_isSlot s = some r) : HC Tryd.prog 59 [] [.int .i64 s] [] (.bool r) := by
 unfold linealref06_isSlot at h
 refine zH Tryd.func59 [.tmp 2] 5 ?_
 refine zo ?_
 refine zB [(0, .int .i64 s)] [] ?_
 refine zo ?_
 refine zS 1 [(3, .int .i64 s)] [] ?_
 obtain ⟨v0, hv1, h⟩ := Option.bind_eq_some_iff.1 h
 refine zC [] [] (hc_linealref06_within 0 s 1 hv1) [(4, .bool v0)] [] ?_
 refine zB [(2, .bool v0)] [] ?_
 refine AW.ret ?_
 obtain rfl := Option.some.inj h
 exact zR [] [] []

theorem hc_linealref06_isNode (n : Int) {r : Bool} (h : linealref06_isNode n = some r) : HC Tryd.prog 54 [] [.int .i64 n] [] (.bool r) := by
 unfold linealref06_isNode at h
 refine zH Tryd.func54 [.tmp 2] 5 ?_
 refine zo ?_
 refine zB [(0, .int .i64 n)] [] ?_
 refine zo ?_
 refine zS 1 [(3, .int .i64 n)] [] ?_
 obtain ⟨v0, hv1, h⟩ := Option.bind_eq_some_iff.1 h
 refine zC [] [] (hc_linealref06_within 0 n 7 hv1) [(4, .bool v0)] [] ?_
 refine zB [(2, .bool v0)] [] ?_
 refine AW.ret ?_
 obtain rfl := Option.some.inj h
 exact zR [] [] []

end Go.Proofs.YtcckpmeepcoafaaDoor
