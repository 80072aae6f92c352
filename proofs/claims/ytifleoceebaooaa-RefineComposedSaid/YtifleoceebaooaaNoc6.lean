/-
  Made by wip/tool/dc.py out of the print of the program: contracts.
-/
import Derived.Test.YtifleoceebaooaaRfp
import Derived.Test.YtifleoceebaooaaShr
import Derived.Test.YtifleoceebaooaaAvd
import Derived.Test.YtifleoceebaooaaNoc3
import Derived.Test.YtifleoceebaooaaNoc5
namespace Go.Proofs.Ytifleoceebaooaa
open Go.RowKit

set_option linter.unusedSimpArgs false
set_option linter.unusedVariables false
set_option linter.constructorNameAsVariable false

set_option maxRecDepth 100000
set_option maxHeartbeats 2000000

theorem hc_linealref05_Composed (r0 : List (Int × Int)) (s : List (Int × Int)) {r : (List (Int × Int)) × Int} (h : linealref05_Composed r0 s = some r) : HC Try.prog 55 [] [.sl (.pair (.int .i64) (.int .i64)) r0, .sl (.pair (.int .i64) (.int .i64)) s] [(2000, .arr 58 (.pair (.int .i64) (.int .i64)) r.1)] (.tup [.own 2000, .int .i64 r.2]) := by
 unfold linealref05_Composed at h
 refine zH Try.func55 [.tmp 4, .tmp 5] 51 ?_
 refine zo ?_
 refine zB [(0, .sl (.pair (.int .i64) (.int .i64)) r0), (1, .sl (.pair (.int .i64) (.int .i64)) s)] [] ?_
 refine AW.seq ?_
 refine zo ?_
 refine zS 1 [(0, .sl (.pair (.int .i64) (.int .i64)) r0), (1, .sl (.pair (.int .i64) (.int .i64)) s), (11, .sl (.pair (.int .i64) (.int .i64)) r0)] [] ?_
 obtain ⟨v0, hv1, h⟩ := Option.bind_eq_some_iff.1 h
 refine zC [] [] (hc_linealref05_isRelation r0 6 6 hv1) [(0, .sl (.pair (.int .i64) (.int .i64)) r0), (1, .sl (.pair (.int .i64) (.int .i64)) s), (12, .bool v0)] [] ?_
 refine zS 2 [(0, .sl (.pair (.int .i64) (.int .i64)) r0), (1, .sl (.pair (.int .i64) (.int .i64)) s), (14, .bool (!v0))] [] ?_
 rcases zI h with ⟨hb2, h⟩ | ⟨hb2, h⟩
 ·refine zB [(0, .sl (.pair (.int .i64) (.int .i64)) r0), (1, .sl (.pair (.int .i64) (.int .i64)) s), (18, .bool true)] [] ?_
  refine AW.cond (b := true) rfl (fun _ => ?_) (fun hb3 => by cases hb3)
  refine zo ?_
  refine zB [(4, .cv (.slice none 0 0)), (5, .int .i64 2)] [] ?_
  refine zr ?_
  obtain rfl := Option.some.inj h
  exact zR [] [2000] []
 ·refine zS 1 [(0, .sl (.pair (.int .i64) (.int .i64)) r0), (1, .sl (.pair (.int .i64) (.int .i64)) s), (14, .bool false), (15, .sl (.pair (.int .i64) (.int .i64)) s)] [] ?_
  obtain ⟨v0_2, hv4, h⟩ := Option.bind_eq_some_iff.1 h
  refine zG [] [] (hc_linealref05_isRelation s 6 6 hv4) [(0, .sl (.pair (.int .i64) (.int .i64)) r0), (1, .sl (.pair (.int .i64) (.int .i64)) s), (14, .bool false), (16, .bool v0_2)] [] ?_
  refine zB [(0, .sl (.pair (.int .i64) (.int .i64)) r0), (1, .sl (.pair (.int .i64) (.int .i64)) s), (18, .bool (!v0_2))] [] ?_
  refine zQ h (fun hb5 h => ?_) (fun hb5 h => ?_)
  ·refine zo ?_
   refine zB [(4, .cv (.slice none 0 0)), (5, .int .i64 2)] [] ?_
   refine zr ?_
   obtain rfl := Option.some.inj h
   exact zR [] [2000] []
  ·refine zk ?_
   refine zo ?_
   refine zB [(0, .sl (.pair (.int .i64) (.int .i64)) r0), (1, .sl (.pair (.int .i64) (.int .i64)) s), (6, .own 19)] [(19, .arr 3 (.int .i64) (List.replicate 6 (0 : Int)))] ?_
   refine AW.have1 (fun b2_2 : (List Int) => linealref05_Composed_k1 b2_2 = some r) (fun b2_2 => ⟨fr [(6, .own 19)], hpGet [(19, .arr 3 (.int .i64) b2_2)], gt⟩) (fun b2_2 h => ?_) (fun hk_linealref05_Composed_k1 => ?_)
   ·as_aux_lemma =>
     unfold linealref05_Composed_k1 at h
     refine zo ?_
     refine zS 1 [(49, .own 19)] [(19, .arr 3 (.int .i64) b2_2)] ?_
     obtain ⟨v0_3, hv6, h⟩ := Option.bind_eq_some_iff.1 h
     refine zC [19] [] (hc_linealref05_relation b2_2 hv6) [(50, .own 60000)] [(60000, .arr 58 (.pair (.int .i64) (.int .i64)) v0_3)] ?_
     refine zB [(4, .own 60000), (5, .int .i64 0)] [(60000, .arr 58 (.pair (.int .i64) (.int .i64)) v0_3)] ?_
     refine AW.ret ?_
     obtain rfl := Option.some.inj h
     exact zR [] [] [(2000, 60000)]
   ·refine AW.seq ?_
    refine zo ?_
    refine zB [(1, .sl (.pair (.int .i64) (.int .i64)) s), (6, .own 19), (20, .sl (.pair (.int .i64) (.int .i64)) r0), (21, .int .i64 (r0.length : Int)), (22, .int .i64 0)] [(19, .arr 3 (.int .i64) (List.replicate 6 (0 : Int)))] ?_
    refine AW.block ?_
    obtain ⟨rv11, hw7, ho8⟩ := Option.bind_eq_some_iff.1 h
    refine AW.loopO (linealref05_Composed_b1 r0 s) (fun st1 => ⟨fr [(1, .sl (.pair (.int .i64) (.int .i64)) s), (6, .own 19), (20, .sl (.pair (.int .i64) (.int .i64)) r0), (21, .int .i64 (r0.length : Int)), (22, .int .i64 st1.2)], hpGet [(19, .arr 3 (.int .i64) st1.1)], gt⟩) ((List.replicate 6 (0 : Int)), 0) hw7 (zL [] [] []) ?_
    as_aux_lemma =>
     intro st1 x10 h hd9
     unfold linealref05_Composed_b1 at h
     refine zo ?_
     refine zB [(1, .sl (.pair (.int .i64) (.int .i64)) s), (6, .own 19), (20, .sl (.pair (.int .i64) (.int .i64)) r0), (21, .int .i64 (r0.length : Int)), (22, .int .i64 st1.2), (23, .bool (decide (st1.2 < (r0.length : Int))))] [(19, .arr 3 (.int .i64) st1.1)] ?_
     refine AW.seq ?_
     refine zQ h (fun hb12 h => ?_) (fun hb12 h => ?_)
     ·refine zk ?_
      refine AW.have1 (fun b2 : (List Int) => linealref05_Composed_k2 st1 b2 = some x10) (fun b2 => ⟨fr [(1, .sl (.pair (.int .i64) (.int .i64)) s), (6, .own 19), (20, .sl (.pair (.int .i64) (.int .i64)) r0), (21, .int .i64 (r0.length : Int)), (22, .int .i64 st1.2)], hpGet [(19, .arr 3 (.int .i64) b2)], gt⟩) (fun b2 h => ?_) (fun hk_linealref05_Composed_k2 => ?_)
      ·as_aux_lemma =>
        unfold linealref05_Composed_k2 at h
        refine AW.ops ?_
        obtain ⟨c13, h⟩ := ck_some.1 h
        refine zA [(1, .sl (.pair (.int .i64) (.int .i64)) s), (6, .own 19), (20, .sl (.pair (.int .i64) (.int .i64)) r0), (21, .int .i64 (r0.length : Int)), (22, .int .i64 (st1.2 + 1))] [(19, .arr 3 (.int .i64) b2)] ?_
        obtain rfl := Option.some.inj h
        exact ⟨_, rfl, zL [] [] []⟩
      ·refine AW.seq ?_
       refine AW.block ?_
       refine zo ?_
       obtain ⟨c14, h⟩ := ck_some.1 h
       obtain ⟨c15, h⟩ := ck_some.1 h
       refine zB [(1, .sl (.pair (.int .i64) (.int .i64)) s), (6, .own 19), (8, .bp 8 0), (20, .sl (.pair (.int .i64) (.int .i64)) r0), (21, .int .i64 (r0.length : Int)), (22, .int .i64 st1.2)] [(8, .box 58 [.int .i64 (r0.getD st1.2.toNat (0, 0)).1, .int .i64 (r0.getD st1.2.toNat (0, 0)).2]), (19, .arr 3 (.int .i64) st1.1)] ?_
       refine zo ?_
       refine zB [(1, .sl (.pair (.int .i64) (.int .i64)) s), (6, .own 19), (8, .bp 8 0), (20, .sl (.pair (.int .i64) (.int .i64)) r0), (21, .int .i64 (r0.length : Int)), (22, .int .i64 st1.2), (26, .sl (.pair (.int .i64) (.int .i64)) s), (27, .int .i64 (s.length : Int)), (28, .int .i64 0)] [(8, .box 58 [.int .i64 (r0.getD st1.2.toNat (0, 0)).1, .int .i64 (r0.getD st1.2.toNat (0, 0)).2]), (19, .arr 3 (.int .i64) st1.1)] ?_
       refine AW.block ?_
       obtain ⟨rv20, hw16, ho17⟩ := Option.bind_eq_some_iff.1 h
       refine AW.loopO (linealref05_Composed_b2 r0 s st1) (fun st2 => ⟨fr [(1, .sl (.pair (.int .i64) (.int .i64)) s), (6, .own 19), (8, .bp 8 0), (20, .sl (.pair (.int .i64) (.int .i64)) r0), (21, .int .i64 (r0.length : Int)), (22, .int .i64 st1.2), (26, .sl (.pair (.int .i64) (.int .i64)) s), (27, .int .i64 (s.length : Int)), (28, .int .i64 st2.2)], hpGet [(8, .box 58 [.int .i64 (r0.getD st1.2.toNat (0, 0)).1, .int .i64 (r0.getD st1.2.toNat (0, 0)).2]), (19, .arr 3 (.int .i64) st2.1)], gt⟩) (st1.1, 0) hw16 (zL [] [] []) ?_
       as_aux_lemma =>
        intro st2 x19 h hd18
        unfold linealref05_Composed_b2 at h
        refine zo ?_
        refine zB [(1, .sl (.pair (.int .i64) (.int .i64)) s), (6, .own 19), (8, .bp 8 0), (20, .sl (.pair (.int .i64) (.int .i64)) r0), (21, .int .i64 (r0.length : Int)), (22, .int .i64 st1.2), (26, .sl (.pair (.int .i64) (.int .i64)) s), (27, .int .i64 (s.length : Int)), (28, .int .i64 st2.2), (29, .bool (decide (st2.2 < (s.length : Int))))] [(8, .box 58 [.int .i64 (r0.getD st1.2.toNat (0, 0)).1, .int .i64 (r0.getD st1.2.toNat (0, 0)).2]), (19, .arr 3 (.int .i64) st2.1)] ?_
        refine AW.seq ?_
        refine zQ h (fun hb21 h => ?_) (fun hb21 h => ?_)
        ·refine zk ?_
         refine AW.seq ?_
         refine AW.block ?_
         refine zo ?_
         obtain ⟨c22, h⟩ := ck_some.1 h
         obtain ⟨c23, h⟩ := ck_some.1 h
         refine zB [(1, .sl (.pair (.int .i64) (.int .i64)) s), (6, .own 19), (8, .bp 8 0), (10, .bp 10 0), (20, .sl (.pair (.int .i64) (.int .i64)) r0), (21, .int .i64 (r0.length : Int)), (22, .int .i64 st1.2), (26, .sl (.pair (.int .i64) (.int .i64)) s), (27, .int .i64 (s.length : Int)), (28, .int .i64 st2.2)] [(8, .box 58 [.int .i64 (r0.getD st1.2.toNat (0, 0)).1, .int .i64 (r0.getD st1.2.toNat (0, 0)).2]), (10, .box 58 [.int .i64 (s.getD st2.2.toNat (0, 0)).1, .int .i64 (s.getD st2.2.toNat (0, 0)).2]), (19, .arr 3 (.int .i64) st2.1)] ?_
         refine zo ?_
         refine zB [(1, .sl (.pair (.int .i64) (.int .i64)) s), (6, .own 19), (8, .bp 8 0), (10, .bp 10 0), (20, .sl (.pair (.int .i64) (.int .i64)) r0), (21, .int .i64 (r0.length : Int)), (22, .int .i64 st1.2), (26, .sl (.pair (.int .i64) (.int .i64)) s), (27, .int .i64 (s.length : Int)), (28, .int .i64 st2.2), (36, .bool (decide ((r0.getD st1.2.toNat (0, 0)).2 = (s.getD st2.2.toNat (0, 0)).1)))] [(8, .box 58 [.int .i64 (r0.getD st1.2.toNat (0, 0)).1, .int .i64 (r0.getD st1.2.toNat (0, 0)).2]), (10, .box 58 [.int .i64 (s.getD st2.2.toNat (0, 0)).1, .int .i64 (s.getD st2.2.toNat (0, 0)).2]), (19, .arr 3 (.int .i64) st2.1)] ?_
         refine zQ h (fun hb24 h => ?_) (fun hb24 h => ?_)
         ·refine AW.draw tab_ok mixed_ok [(10, [19])] [] (by decide) (lex_fast (by kernel_rfl)) ?_
          as_aux_lemma =>
           obtain ⟨c26, h⟩ := ck_some.1 h
           obtain ⟨c27, h⟩ := ck_some.1 h
           refine adops_cut 6 (fun K' hK25 => ?_)
           try dsimp only [List.drop_succ_cons, List.drop_zero, List.take_succ_cons, List.take_zero]
           simp only [go_sem, hb2, hb5, hb12, hb21, hb24]
           repeat with_reducible refine zN ?_
           refine hK25 _ ?_
           as_aux_lemma =>
            obtain ⟨c29, h⟩ := ck_some.1 h
            obtain ⟨c30, h⟩ := ck_some.1 h
            obtain ⟨c31, h⟩ := ck_some.1 h
            refine adops_cut 5 (fun K' hK28 => ?_)
            try dsimp only [List.drop_succ_cons, List.drop_zero, List.take_succ_cons, List.take_zero]
            simp only [go_sem, hb2, hb5, hb12, hb21, hb24]
            repeat with_reducible refine zN ?_
            refine hK28 _ ?_
            refine adops_nil ?_
            refine ablock_n ?_
            refine athen_n ?_
            refine zV [(1, .sl (.pair (.int .i64) (.int .i64)) s), (6, .own 19), (8, .bp 8 0), (20, .sl (.pair (.int .i64) (.int .i64)) r0), (21, .int .i64 (r0.length : Int)), (22, .int .i64 st1.2), (26, .sl (.pair (.int .i64) (.int .i64)) s), (27, .int .i64 (s.length : Int)), (28, .int .i64 st2.2)] [(8, .box 58 [.int .i64 (r0.getD st1.2.toNat (0, 0)).1, .int .i64 (r0.getD st1.2.toNat (0, 0)).2]), (19, .arr 3 (.int .i64) (st2.1.set (r0.getD st1.2.toNat (0, 0)).1.toNat (ior .i64 (st2.1.getD (r0.getD st1.2.toNat (0, 0)).1.toNat 0) (ishl .i64 1 (s.getD st2.2.toNat (0, 0)).2))))] gt ?_
            as_aux_lemma =>
             refine AW.ops ?_
             obtain ⟨c32, h⟩ := ck_some.1 h
             refine zA [(1, .sl (.pair (.int .i64) (.int .i64)) s), (6, .own 19), (8, .bp 8 0), (20, .sl (.pair (.int .i64) (.int .i64)) r0), (21, .int .i64 (r0.length : Int)), (22, .int .i64 st1.2), (26, .sl (.pair (.int .i64) (.int .i64)) s), (27, .int .i64 (s.length : Int)), (28, .int .i64 (st2.2 + 1))] [(8, .box 58 [.int .i64 (r0.getD st1.2.toNat (0, 0)).1, .int .i64 (r0.getD st1.2.toNat (0, 0)).2]), (19, .arr 3 (.int .i64) (st2.1.set (r0.getD st1.2.toNat (0, 0)).1.toNat (ior .i64 (st2.1.getD (r0.getD st1.2.toNat (0, 0)).1.toNat 0) (ishl .i64 1 (s.getD st2.2.toNat (0, 0)).2))))] ?_
             obtain rfl := Option.some.inj h
             exact ⟨_, rfl, zL [] [] []⟩
         ·refine zm ?_
          refine athen_n ?_
          refine AW.ops ?_
          obtain ⟨c33, h⟩ := ck_some.1 h
          refine zA [(1, .sl (.pair (.int .i64) (.int .i64)) s), (6, .own 19), (8, .bp 8 0), (20, .sl (.pair (.int .i64) (.int .i64)) r0), (21, .int .i64 (r0.length : Int)), (22, .int .i64 st1.2), (26, .sl (.pair (.int .i64) (.int .i64)) s), (27, .int .i64 (s.length : Int)), (28, .int .i64 (st2.2 + 1))] [(8, .box 58 [.int .i64 (r0.getD st1.2.toNat (0, 0)).1, .int .i64 (r0.getD st1.2.toNat (0, 0)).2]), (19, .arr 3 (.int .i64) st2.1)] ?_
          obtain rfl := Option.some.inj h
          exact ⟨_, rfl, zL [] [] []⟩
        ·refine AW.exit ?_
         refine athen_e ?_
         obtain rfl := Option.some.inj h
         rw [← hd18 _ rfl] at ho17
         have h := ho17
         refine athen_e ?_
         refine ablock_s ?_
         refine ablock_n ?_
         refine athen_n ?_
         exact AW.weaken (zL [] [] []) (hk_linealref05_Composed_k2 _ h)
     ·refine AW.exit ?_
      refine athen_e ?_
      obtain rfl := Option.some.inj h
      rw [← hd9 _ rfl] at ho8
      have h := ho8
      refine athen_e ?_
      refine ablock_s ?_
      refine athen_n ?_
      exact AW.weaken (zL [] [] []) (hk_linealref05_Composed_k1 _ h)

theorem hc_linealref05_SamePairs (a : List (Int × Int)) (b : List (Int × Int)) {r : Bool} (h : linealref05_SamePairs a b = some r) : HC Try.prog 34 [] [.sl (.pair (.int .i64) (.int .i64)) a, .sl (.pair (.int .i64) (.int .i64)) b] [] (.bool r) := by
 unfold linealref05_SamePairs at h
 refine zH Try.func34 [.tmp 4] 26 ?_
 refine zo ?_
 refine zB [(0, .sl (.pair (.int .i64) (.int .i64)) a), (1, .sl (.pair (.int .i64) (.int .i64)) b)] [] ?_
 refine AW.seq ?_
 refine zo ?_
 refine zB [(0, .sl (.pair (.int .i64) (.int .i64)) a), (1, .sl (.pair (.int .i64) (.int .i64)) b), (10, .bool (!(decide ((a.length : Int) = (b.length : Int)))))] [] ?_
 refine zQ h (fun hb1 h => ?_) (fun hb1 h => ?_)
 ·refine zo ?_
  refine zB [(4, .bool false)] [] ?_
  refine zr ?_
  obtain rfl := Option.some.inj h
  exact zR [] [] []
 ·refine zk ?_
  refine AW.have1 (fun _ : Unit => linealref05_SamePairs_k1 = some r) (fun _ => ⟨fr [], hpGet [], gt⟩) (fun _ h => ?_) (fun hk_linealref05_SamePairs_k1 => ?_)
  ·as_aux_lemma =>
    unfold linealref05_SamePairs_k1 at h
    refine zo ?_
    refine zB [(4, .bool true)] [] ?_
    refine AW.ret ?_
    obtain rfl := Option.some.inj h
    exact zR [] [] []
  ·refine AW.seq ?_
   refine zo ?_
   refine zB [(0, .sl (.pair (.int .i64) (.int .i64)) a), (1, .sl (.pair (.int .i64) (.int .i64)) b), (12, .int .i64 (a.length : Int)), (13, .int .i64 0)] [] ?_
   refine AW.block ?_
   obtain ⟨rv6, hw2, ho3⟩ := Option.bind_eq_some_iff.1 h
   refine AW.loopO (linealref05_SamePairs_b1 a b) (fun st1 => ⟨fr [(0, .sl (.pair (.int .i64) (.int .i64)) a), (1, .sl (.pair (.int .i64) (.int .i64)) b), (12, .int .i64 (a.length : Int)), (13, .int .i64 st1)], hpGet [], gt⟩) 0 hw2 (zL [] [] []) ?_
   as_aux_lemma =>
    intro st1 x5 h hd4
    unfold linealref05_SamePairs_b1 at h
    refine zo ?_
    refine zB [(0, .sl (.pair (.int .i64) (.int .i64)) a), (1, .sl (.pair (.int .i64) (.int .i64)) b), (12, .int .i64 (a.length : Int)), (13, .int .i64 st1), (14, .bool (decide (st1 < (a.length : Int))))] [] ?_
    refine AW.seq ?_
    refine zQ h (fun hb7 h => ?_) (fun hb7 h => ?_)
    ·refine zk ?_
     refine AW.seq ?_
     refine AW.block ?_
     refine zo ?_
     refine zB [(0, .sl (.pair (.int .i64) (.int .i64)) a), (1, .sl (.pair (.int .i64) (.int .i64)) b), (5, .int .i64 st1), (12, .int .i64 (a.length : Int)), (13, .int .i64 st1)] [] ?_
     refine AW.seq ?_
     refine AW.drawTail tab_ok mixed_ok 8 [] [] (by decide) (by kernel_rfl) (by kernel_rfl) (by decide) ?_
     dsimp only [List.take_succ_cons, List.take_zero]
     obtain ⟨c9, h⟩ := ck_some.1 h
     obtain ⟨c10, h⟩ := ck_some.1 h
     refine adops_cut 6 (fun K' hK8 => ?_)
     try dsimp only [List.drop_succ_cons, List.drop_zero, List.take_succ_cons, List.take_zero]
     simp only [go_sem, hb1, hb7]
     repeat with_reducible refine zN ?_
     refine hK8 _ ?_
     as_aux_lemma =>
      obtain ⟨c12, h⟩ := ck_some.1 h
      obtain ⟨c13, h⟩ := ck_some.1 h
      refine adops_cut 2 (fun K' hK11 => ?_)
      try dsimp only [List.drop_succ_cons, List.drop_zero, List.take_succ_cons, List.take_zero]
      simp only [go_sem, hb1, hb7]
      repeat with_reducible refine zN ?_
      refine hK11 _ ?_
      refine adops_nil ?_
      refine zT [(0, .sl (.pair (.int .i64) (.int .i64)) a), (1, .sl (.pair (.int .i64) (.int .i64)) b), (12, .int .i64 (a.length : Int)), (13, .int .i64 st1), (19, .agg [.int .i64 (a.getD st1.toNat (0, 0)).1, .int .i64 (a.getD st1.toNat (0, 0)).2]), (23, .agg [.int .i64 (b.getD st1.toNat (0, 0)).1, .int .i64 (b.getD st1.toNat (0, 0)).2])] [] gt ?_
      obtain ⟨c14, h⟩ := ck_some.1 h
      obtain ⟨c15, h⟩ := ck_some.1 h
      obtain ⟨c16, h⟩ := ck_some.1 h
      obtain ⟨c17, h⟩ := ck_some.1 h
      refine AO.aggEq (neg := true) eqty_58 (by decide) rfl rfl (lx := [.int .i64 (a.getD st1.toNat (0, 0)).1, .int .i64 (a.getD st1.toNat (0, 0)).2]) (ly := [.int .i64 (b.getD st1.toNat (0, 0)).1, .int .i64 (b.getD st1.toNat (0, 0)).2]) (by first | rfl | (simp only [go_sem, hb1, hb7]) <;> (with_reducible and_intros) <;> first | assumption | rfl | omega | (unfold maxLen; omega)) (by first | rfl | (simp only [go_sem, hb1, hb7]) <;> (with_reducible and_intros) <;> first | assumption | rfl | omega | (unfold maxLen; omega)) (by first | rfl | (simp only [go_sem, hb1, hb7]) <;> (with_reducible and_intros) <;> first | assumption | rfl | omega | (unfold maxLen; omega)) (by first | rfl | (simp only [go_sem, hb1, hb7]) <;> (with_reducible and_intros) <;> first | assumption | rfl | omega | (unfold maxLen; omega)) (by first | assumption | omega | (simp only [go_sem, hb1, hb7]) <;> (with_reducible and_intros) <;> first | assumption | rfl | omega | (unfold maxLen; omega)) (by first | assumption | omega | (simp only [go_sem, hb1, hb7]) <;> (with_reducible and_intros) <;> first | assumption | rfl | omega | (unfold maxLen; omega)) ?_
      refine zT [(0, .sl (.pair (.int .i64) (.int .i64)) a), (1, .sl (.pair (.int .i64) (.int .i64)) b), (12, .int .i64 (a.length : Int)), (13, .int .i64 st1), (24, .bool (!(decide ((a.getD st1.toNat (0, 0)) = (b.getD st1.toNat (0, 0))))))] [] gt ?_
      refine zB [(0, .sl (.pair (.int .i64) (.int .i64)) a), (1, .sl (.pair (.int .i64) (.int .i64)) b), (12, .int .i64 (a.length : Int)), (13, .int .i64 st1), (24, .bool (!(decide ((a.getD st1.toNat (0, 0)) = (b.getD st1.toNat (0, 0))))))] [] ?_
      refine zQ h (fun hb18 h => ?_) (fun hb18 h => ?_)
      ·refine zo ?_
       refine zB [(4, .bool false)] [] ?_
       refine AW.ret ?_
       refine ablock_r ?_
       refine athen_r ?_
       obtain rfl := Option.some.inj h
       rw [← hd4 _ rfl] at ho3
       have h := ho3
       try simp only at h
       refine athen_r ?_
       refine ablock_r ?_
       refine athen_r ?_
       obtain rfl := Option.some.inj h
       exact zR [] [] []
      ·refine zm ?_
       refine athen_n ?_
       refine AW.ops ?_
       obtain ⟨c19, h⟩ := ck_some.1 h
       refine zA [(0, .sl (.pair (.int .i64) (.int .i64)) a), (1, .sl (.pair (.int .i64) (.int .i64)) b), (12, .int .i64 (a.length : Int)), (13, .int .i64 (st1 + 1))] [] ?_
       obtain rfl := Option.some.inj h
       exact ⟨_, rfl, zL [] [] []⟩
    ·refine AW.exit ?_
     refine athen_e ?_
     obtain rfl := Option.some.inj h
     rw [← hd4 _ rfl] at ho3
     have h := ho3
     try simp only at h
     refine athen_e ?_
     refine ablock_s ?_
     refine athen_n ?_
     exact AW.weaken (zL [] [] []) (hk_linealref05_SamePairs_k1 () h)

theorem hc_lineallaw05_RefineComposed (r0 : List (Int × Int)) (s : List (Int × Int)) {r : Bool} (h : lineallaw05_RefineComposed r0 s = some r) : HC Try.prog 8 [] [.sl (.pair (.int .i64) (.int .i64)) r0, .sl (.pair (.int .i64) (.int .i64)) s] [] (.bool r) := by
 unfold lineallaw05_RefineComposed at h
 refine zH Try.func8 [.tmp 4] 41 ?_
 refine zo ?_
 refine zB [(0, .sl (.pair (.int .i64) (.int .i64)) r0), (1, .sl (.pair (.int .i64) (.int .i64)) s)] [] ?_
 refine AW.seq ?_
 refine zo ?_
 refine zS 4 [(0, .sl (.pair (.int .i64) (.int .i64)) r0), (1, .sl (.pair (.int .i64) (.int .i64)) s), (12, .bool (decide (100 < (r0.length : Int))))] [] ?_
 rcases zI h with ⟨hb1, h⟩ | ⟨hb1, h⟩
 ·refine zB [(0, .sl (.pair (.int .i64) (.int .i64)) r0), (1, .sl (.pair (.int .i64) (.int .i64)) s), (16, .bool true)] [] ?_
  refine AW.cond (b := true) rfl (fun _ => ?_) (fun hb2 => by cases hb2)
  refine zo ?_
  obtain ⟨v0, hv3, h⟩ := Option.bind_eq_some_iff.1 h
  refine zC [] [] (hc_lineallaw05_Awake hv3) [(17, .bool v0)] [] ?_
  refine zB [(4, .bool v0)] [] ?_
  refine zr ?_
  obtain rfl := Option.some.inj h
  exact zR [] [] []
 ·refine zB [(0, .sl (.pair (.int .i64) (.int .i64)) r0), (1, .sl (.pair (.int .i64) (.int .i64)) s), (16, .bool (decide (100 < (s.length : Int))))] [] ?_
  refine zQ h (fun hb4 h => ?_) (fun hb4 h => ?_)
  ·refine zo ?_
   obtain ⟨v0_2, hv5, h⟩ := Option.bind_eq_some_iff.1 h
   refine zC [] [] (hc_lineallaw05_Awake hv5) [(17, .bool v0_2)] [] ?_
   refine zB [(4, .bool v0_2)] [] ?_
   refine zr ?_
   obtain rfl := Option.some.inj h
   exact zR [] [] []
  ·refine zk ?_
   refine zo ?_
   refine zS 2 [(0, .sl (.pair (.int .i64) (.int .i64)) r0), (1, .sl (.pair (.int .i64) (.int .i64)) s), (19, .sl (.pair (.int .i64) (.int .i64)) r0), (20, .sl (.pair (.int .i64) (.int .i64)) s)] [] ?_
   obtain ⟨v0_3, hv6, h⟩ := Option.bind_eq_some_iff.1 h
   refine zC [] [] (hc_refine_Composed r0 s hv6) [(0, .sl (.pair (.int .i64) (.int .i64)) r0), (1, .sl (.pair (.int .i64) (.int .i64)) s), (21, .tup [.own 31000, .int .i64 v0_3.2])] [(31000, .arr 58 (.pair (.int .i64) (.int .i64)) v0_3.1)] ?_
   refine zB [(0, .sl (.pair (.int .i64) (.int .i64)) r0), (1, .sl (.pair (.int .i64) (.int .i64)) s), (5, .own 31000), (6, .int .i64 v0_3.2)] [(31000, .arr 58 (.pair (.int .i64) (.int .i64)) v0_3.1)] ?_
   refine zo ?_
   refine zS 2 [(5, .own 31000), (6, .int .i64 v0_3.2), (25, .sl (.pair (.int .i64) (.int .i64)) r0), (26, .sl (.pair (.int .i64) (.int .i64)) s)] [(31000, .arr 58 (.pair (.int .i64) (.int .i64)) v0_3.1)] ?_
   obtain ⟨v0_4, hv7, h⟩ := Option.bind_eq_some_iff.1 h
   refine zC [] [] (hc_linealref05_Composed r0 s hv7) [(5, .own 31000), (6, .int .i64 v0_3.2), (27, .tup [.own 37000, .int .i64 v0_4.2])] [(31000, .arr 58 (.pair (.int .i64) (.int .i64)) v0_3.1), (37000, .arr 58 (.pair (.int .i64) (.int .i64)) v0_4.1)] ?_
   refine zB [(5, .own 31000), (6, .int .i64 v0_3.2), (7, .own 37000), (8, .int .i64 v0_4.2)] [(31000, .arr 58 (.pair (.int .i64) (.int .i64)) v0_3.1), (37000, .arr 58 (.pair (.int .i64) (.int .i64)) v0_4.1)] ?_
   refine zo ?_
   refine zS 2 [(6, .int .i64 v0_3.2), (8, .int .i64 v0_4.2), (30, .own 31000), (31, .own 37000)] [(31000, .arr 58 (.pair (.int .i64) (.int .i64)) v0_3.1), (37000, .arr 58 (.pair (.int .i64) (.int .i64)) v0_4.1)] ?_
   obtain ⟨v0_5, hv8, h⟩ := Option.bind_eq_some_iff.1 h
   refine zC [31000, 37000] [] (hc_linealref05_SamePairs v0_3.1 v0_4.1 hv8) [(6, .int .i64 v0_3.2), (8, .int .i64 v0_4.2), (32, .bool v0_5)] [] ?_
   refine zS 1 [(6, .int .i64 v0_3.2), (8, .int .i64 v0_4.2), (33, .bool v0_5)] [] ?_
   rcases zI h with ⟨hb9, h⟩ | ⟨hb9, h⟩
   ·refine zS 5 [(38, .bool (decide (v0_3.2 = v0_4.2)))] [] ?_
    rcases zI h with ⟨hb10, h⟩ | ⟨hb10, h⟩
    ·refine zT [(38, .bool true)] [] gt ?_
     obtain ⟨v0_6, hv11, h⟩ := Option.bind_eq_some_iff.1 h
     refine zG [] [] (hc_lineallaw05_Awake hv11) [(38, .bool true), (39, .bool v0_6)] [] ?_
     refine zB [(4, .bool v0_6)] [] ?_
     refine AW.ret ?_
     obtain rfl := Option.some.inj h
     exact zR [] [] []
    ·refine zB [(4, .bool false)] [] ?_
     refine AW.ret ?_
     obtain rfl := Option.some.inj h
     exact zR [] [] []
   ·refine zS 5 [(38, .bool false)] [] ?_
    refine zB [(4, .bool false)] [] ?_
    refine AW.ret ?_
    obtain rfl := Option.some.inj h
    exact zR [] [] []

end Go.Proofs.Ytifleoceebaooaa
