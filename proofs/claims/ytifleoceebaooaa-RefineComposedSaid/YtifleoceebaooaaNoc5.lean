/-
  Made by wip/tool/dc.py out of the print of the program: contracts.
-/
import Derived.Test.YtifleoceebaooaaRfp
import Derived.Test.YtifleoceebaooaaShr
import Derived.Test.YtifleoceebaooaaAvd
import Derived.Test.YtifleoceebaooaaNoc4
namespace Go.Proofs.Ytifleoceebaooaa
open Go.RowKit

set_option linter.unusedSimpArgs false
set_option linter.unusedVariables false
set_option linter.constructorNameAsVariable false

set_option maxRecDepth 100000
set_option maxHeartbeats 2000000

theorem hc_refine_relation_composed (r0 : (El T94)) (s : (El T94)) {r : (El T94)} (h : refine_relation_composed r0 s = some r) : HC Try.prog 101 [] [.agg (cellsX T94 r0), .agg (cellsX T94 s)] [] (.agg (cellsX T94 r)) := by
 unfold refine_relation_composed at h
 refine zH Try.func101 [.cell 4 94] 27 ?_
 refine zo ?_
 refine zB [(2, .bp 2 0), (3, .bp 3 0), (4, .bp 4 0)] [(2, .box 94 (cellsX T94 r0)), (3, .box 94 (cellsX T94 s)), (4, .box 94 (cellsX T94 (Ty.dflt T94)))] ?_
 refine zo ?_
 refine zB [(2, .bp 2 0), (3, .bp 3 0), (4, .bp 4 0), (5, .bp 5 0)] [(2, .box 94 (cellsX T94 r0)), (3, .box 94 (cellsX T94 s)), (4, .box 94 (cellsX T94 (Ty.dflt T94))), (5, .box 94 (cellsX T94 (Ty.dflt T94)))] ?_
 refine AW.have1 (fun b1 : (El T94) => refine_relation_composed_k1 b1 = some r) (fun b1 => ⟨fr [(4, .bp 4 0), (5, .bp 5 0)], hpGet [(4, .box 94 (cellsX T94 (Ty.dflt T94))), (5, .box 94 (cellsX T94 b1))], gt⟩) (fun b1 h => ?_) (fun hk_refine_relation_composed_k1 => ?_)
 ·as_aux_lemma =>
   unfold refine_relation_composed_k1 at h
   refine zo ?_
   refine zB [(4, .bp 4 0)] [(4, .box 94 (cellsX T94 b1))] ?_
   refine AW.ret ?_
   obtain rfl := Option.some.inj h
   exact zR [] [] []
 ·refine AW.seq ?_
  refine zo ?_
  refine zS 1 [(3, .bp 3 0), (4, .bp 4 0), (5, .bp 5 0), (8, .agg (cellsX T94 r0))] [(3, .box 94 (cellsX T94 s)), (4, .box 94 (cellsX T94 (Ty.dflt T94))), (5, .box 94 (cellsX T94 (Ty.dflt T94)))] ?_
  obtain ⟨v0, hv1, h⟩ := Option.bind_eq_some_iff.1 h
  refine zC [] [] (hc_refine_relation_list r0 hv1) [(3, .bp 3 0), (4, .bp 4 0), (5, .bp 5 0), (9, .own 19000)] [(3, .box 94 (cellsX T94 s)), (4, .box 94 (cellsX T94 (Ty.dflt T94))), (5, .box 94 (cellsX T94 (Ty.dflt T94))), (19000, .arr 58 (.pair (.int .i64) (.int .i64)) v0)] ?_
  refine zB [(3, .bp 3 0), (4, .bp 4 0), (5, .bp 5 0), (9, .own 19000), (10, .int .i64 (v0.length : Int)), (11, .int .i64 0)] [(3, .box 94 (cellsX T94 s)), (4, .box 94 (cellsX T94 (Ty.dflt T94))), (5, .box 94 (cellsX T94 (Ty.dflt T94))), (19000, .arr 58 (.pair (.int .i64) (.int .i64)) v0)] ?_
  refine AW.block ?_
  obtain ⟨rv6, hw2, ho3⟩ := Option.bind_eq_some_iff.1 h
  refine AW.loopO (refine_relation_composed_b1 s v0) (fun st1 => ⟨fr [(3, .bp 3 0), (4, .bp 4 0), (5, .bp 5 0), (9, .own 19000), (10, .int .i64 (v0.length : Int)), (11, .int .i64 st1.2)], hpGet [(3, .box 94 (cellsX T94 s)), (4, .box 94 (cellsX T94 (Ty.dflt T94))), (5, .box 94 (cellsX T94 st1.1)), (19000, .arr 58 (.pair (.int .i64) (.int .i64)) v0)], gt⟩) ((Ty.dflt T94), 0) hw2 (zL [] [] []) ?_
  as_aux_lemma =>
   intro st1 x5 h hd4
   unfold refine_relation_composed_b1 at h
   refine zo ?_
   refine zB [(3, .bp 3 0), (4, .bp 4 0), (5, .bp 5 0), (9, .own 19000), (10, .int .i64 (v0.length : Int)), (11, .int .i64 st1.2), (12, .bool (decide (st1.2 < (v0.length : Int))))] [(3, .box 94 (cellsX T94 s)), (4, .box 94 (cellsX T94 (Ty.dflt T94))), (5, .box 94 (cellsX T94 st1.1)), (19000, .arr 58 (.pair (.int .i64) (.int .i64)) v0)] ?_
   refine AW.seq ?_
   refine zQ h (fun hb7 h => ?_) (fun hb7 h => ?_)
   ·refine zk ?_
    refine AW.seq ?_
    refine AW.block ?_
    refine zo ?_
    obtain ⟨c8, h⟩ := ck_some.1 h
    obtain ⟨c9, h⟩ := ck_some.1 h
    refine zB [(3, .bp 3 0), (4, .bp 4 0), (5, .bp 5 0), (7, .bp 7 0), (9, .own 19000), (10, .int .i64 (v0.length : Int)), (11, .int .i64 st1.2)] [(3, .box 94 (cellsX T94 s)), (4, .box 94 (cellsX T94 (Ty.dflt T94))), (5, .box 94 (cellsX T94 st1.1)), (7, .box 58 [.int .i64 (v0.getD st1.2.toNat (0, 0)).1, .int .i64 (v0.getD st1.2.toNat (0, 0)).2]), (19000, .arr 58 (.pair (.int .i64) (.int .i64)) v0)] ?_
    refine AW.draw tab_ok mixed_ok [(10, [5])] [] (by decide) (lex_fast (by kernel_rfl)) ?_
    as_aux_lemma =>
     obtain ⟨c11, h⟩ := ck_some.1 h
     obtain ⟨c12, h⟩ := ck_some.1 h
     have hx13 : (0 + (v0.getD st1.2.toNat (0, 0)).1.toNat * 1) < 6 := by omega
     refine adops_cut 6 (fun K' hK10 => ?_)
     try dsimp only [List.drop_succ_cons, List.drop_zero, List.take_succ_cons, List.take_zero]
     simp only [go_sem, hb7, hx13]
     repeat with_reducible refine zN ?_
     refine hK10 _ ?_
     as_aux_lemma =>
      obtain ⟨c15, h⟩ := ck_some.1 h
      obtain ⟨c16, h⟩ := ck_some.1 h
      have hx17 : (0 + (v0.getD st1.2.toNat (0, 0)).2.toNat * 1) < 6 := by omega
      obtain ⟨c18, h⟩ := ck_some.1 h
      obtain ⟨c19, h⟩ := ck_some.1 h
      have hx20 : (0 + (v0.getD st1.2.toNat (0, 0)).1.toNat * 1) < 6 := by omega
      refine adops_cut 5 (fun K' hK14 => ?_)
      try dsimp only [List.drop_succ_cons, List.drop_zero, List.take_succ_cons, List.take_zero]
      simp only [go_sem, hb7, hx13, hx17, hx20]
      repeat with_reducible refine zN ?_
      refine hK14 _ ?_
      refine adops_nil ?_
      refine ablock_n ?_
      refine athen_n ?_
      refine zV [(3, .bp 3 0), (4, .bp 4 0), (5, .bp 5 0), (9, .own 19000), (10, .int .i64 (v0.length : Int)), (11, .int .i64 st1.2)] [(3, .box 94 (cellsX T94 s)), (4, .box 94 (cellsX T94 (Ty.dflt T94))), (5, .box 94 (cellsX T94 (setInt T94 st1.1 (0 + (v0.getD st1.2.toNat (0, 0)).1.toNat * 1) (ior .u8 (intAt T94 st1.1 (0 + (v0.getD st1.2.toNat (0, 0)).1.toNat * 1)) (intAt T94 s (0 + (v0.getD st1.2.toNat (0, 0)).2.toNat * 1)))))), (19000, .arr 58 (.pair (.int .i64) (.int .i64)) v0)] gt ?_
      as_aux_lemma =>
       refine AW.ops ?_
       obtain ⟨c21, h⟩ := ck_some.1 h
       refine zA [(3, .bp 3 0), (4, .bp 4 0), (5, .bp 5 0), (9, .own 19000), (10, .int .i64 (v0.length : Int)), (11, .int .i64 (st1.2 + 1))] [(3, .box 94 (cellsX T94 s)), (4, .box 94 (cellsX T94 (Ty.dflt T94))), (5, .box 94 (cellsX T94 (setInt T94 st1.1 (0 + (v0.getD st1.2.toNat (0, 0)).1.toNat * 1) (ior .u8 (intAt T94 st1.1 (0 + (v0.getD st1.2.toNat (0, 0)).1.toNat * 1)) (intAt T94 s (0 + (v0.getD st1.2.toNat (0, 0)).2.toNat * 1)))))), (19000, .arr 58 (.pair (.int .i64) (.int .i64)) v0)] ?_
       obtain rfl := Option.some.inj h
       exact ⟨_, rfl, zL [] [] []⟩
   ·refine AW.exit ?_
    refine athen_e ?_
    obtain rfl := Option.some.inj h
    rw [← hd4 _ rfl] at ho3
    have h := ho3
    refine athen_e ?_
    refine ablock_s ?_
    refine athen_n ?_
    exact AW.weaken (zL [] [] []) (hk_refine_relation_composed_k1 _ h)

theorem hc_refine_Composed (r0 : List (Int × Int)) (s : List (Int × Int)) {r : (List (Int × Int)) × Int} (h : refine_Composed r0 s = some r) : HC Try.prog 54 [] [.sl (.pair (.int .i64) (.int .i64)) r0, .sl (.pair (.int .i64) (.int .i64)) s] [(2000, .arr 58 (.pair (.int .i64) (.int .i64)) r.1)] (.tup [.own 2000, .int .i64 r.2]) := by
 unfold refine_Composed at h
 refine zH Try.func54 [.tmp 4, .tmp 5] 20 ?_
 refine zo ?_
 refine zB [(0, .sl (.pair (.int .i64) (.int .i64)) r0), (1, .sl (.pair (.int .i64) (.int .i64)) s)] [] ?_
 refine AW.seq ?_
 refine zo ?_
 refine zS 1 [(0, .sl (.pair (.int .i64) (.int .i64)) r0), (1, .sl (.pair (.int .i64) (.int .i64)) s), (6, .sl (.pair (.int .i64) (.int .i64)) r0)] [] ?_
 obtain ⟨v0, hv1, h⟩ := Option.bind_eq_some_iff.1 h
 refine zC [] [] (hc_refine_isRelation r0 6 6 hv1) [(0, .sl (.pair (.int .i64) (.int .i64)) r0), (1, .sl (.pair (.int .i64) (.int .i64)) s), (7, .bool v0)] [] ?_
 refine zS 2 [(0, .sl (.pair (.int .i64) (.int .i64)) r0), (1, .sl (.pair (.int .i64) (.int .i64)) s), (9, .bool (!v0))] [] ?_
 rcases zI h with ⟨hb2, h⟩ | ⟨hb2, h⟩
 ·refine zB [(0, .sl (.pair (.int .i64) (.int .i64)) r0), (1, .sl (.pair (.int .i64) (.int .i64)) s), (13, .bool true)] [] ?_
  refine AW.cond (b := true) rfl (fun _ => ?_) (fun hb3 => by cases hb3)
  refine zo ?_
  refine zB [(4, .cv (.slice none 0 0)), (5, .int .i64 2)] [] ?_
  refine zr ?_
  obtain rfl := Option.some.inj h
  exact zR [] [2000] []
 ·refine zS 1 [(0, .sl (.pair (.int .i64) (.int .i64)) r0), (1, .sl (.pair (.int .i64) (.int .i64)) s), (9, .bool false), (10, .sl (.pair (.int .i64) (.int .i64)) s)] [] ?_
  obtain ⟨v0_2, hv4, h⟩ := Option.bind_eq_some_iff.1 h
  refine zG [] [] (hc_refine_isRelation s 6 6 hv4) [(0, .sl (.pair (.int .i64) (.int .i64)) r0), (1, .sl (.pair (.int .i64) (.int .i64)) s), (9, .bool false), (11, .bool v0_2)] [] ?_
  refine zB [(0, .sl (.pair (.int .i64) (.int .i64)) r0), (1, .sl (.pair (.int .i64) (.int .i64)) s), (13, .bool (!v0_2))] [] ?_
  refine zQ h (fun hb5 h => ?_) (fun hb5 h => ?_)
  ·refine zo ?_
   refine zB [(4, .cv (.slice none 0 0)), (5, .int .i64 2)] [] ?_
   refine zr ?_
   obtain rfl := Option.some.inj h
   exact zR [] [2000] []
  ·refine zk ?_
   refine zo ?_
   refine zS 1 [(1, .sl (.pair (.int .i64) (.int .i64)) s), (14, .sl (.pair (.int .i64) (.int .i64)) r0)] [] ?_
   obtain ⟨v0_3, hv6, h⟩ := Option.bind_eq_some_iff.1 h
   refine zC [] [] (hc_refine_relationOf r0 hv6) [(1, .sl (.pair (.int .i64) (.int .i64)) s), (15, .agg (cellsX T94 v0_3))] [] ?_
   refine zS 1 [(15, .agg (cellsX T94 v0_3)), (16, .sl (.pair (.int .i64) (.int .i64)) s)] [] ?_
   obtain ⟨v0_4, hv7, h⟩ := Option.bind_eq_some_iff.1 h
   refine zC [] [] (hc_refine_relationOf s hv7) [(15, .agg (cellsX T94 v0_3)), (17, .agg (cellsX T94 v0_4))] [] ?_
   obtain ⟨v0_5, hv8, h⟩ := Option.bind_eq_some_iff.1 h
   refine zC [] [] (hc_refine_relation_composed v0_3 v0_4 hv8) [(18, .agg (cellsX T94 v0_5))] [] ?_
   obtain ⟨v0_6, hv9, h⟩ := Option.bind_eq_some_iff.1 h
   refine zC [] [] (hc_refine_relation_list v0_5 hv9) [(19, .own 29000)] [(29000, .arr 58 (.pair (.int .i64) (.int .i64)) v0_6)] ?_
   refine zB [(4, .own 29000), (5, .int .i64 0)] [(29000, .arr 58 (.pair (.int .i64) (.int .i64)) v0_6)] ?_
   refine AW.ret ?_
   obtain rfl := Option.some.inj h
   exact zR [] [] [(2000, 29000)]

theorem hc_linealref05_isRelation (r0 : List (Int × Int)) (m : Int) (n : Int) {r : Bool} (h : linealref05_isRelation r0 m n = some r) : HC Try.prog 89 [] [.sl (.pair (.int .i64) (.int .i64)) r0, .int .i64 m, .int .i64 n] [] (.bool r) := by
 unfold linealref05_isRelation at h
 refine zH Try.func89 [.tmp 6] 72 ?_
 refine zo ?_
 refine zB [(0, .sl (.pair (.int .i64) (.int .i64)) r0), (1, .int .i64 m), (2, .int .i64 n)] [] ?_
 refine AW.have1 (fun _ : Unit => linealref05_isRelation_k1 = some r) (fun _ => ⟨fr [], hpGet [], gt⟩) (fun _ h => ?_) (fun hk_linealref05_isRelation_k1 => ?_)
 ·as_aux_lemma =>
   unfold linealref05_isRelation_k1 at h
   refine zo ?_
   refine zB [(6, .bool true)] [] ?_
   refine AW.ret ?_
   obtain rfl := Option.some.inj h
   exact zR [] [] []
 ·refine AW.seq ?_
  refine zo ?_
  refine zB [(0, .sl (.pair (.int .i64) (.int .i64)) r0), (1, .int .i64 m), (2, .int .i64 n), (9, .sl (.pair (.int .i64) (.int .i64)) r0), (10, .int .i64 (r0.length : Int)), (11, .int .i64 0)] [] ?_
  refine AW.block ?_
  obtain ⟨rv5, hw1, ho2⟩ := Option.bind_eq_some_iff.1 h
  refine AW.loopO (linealref05_isRelation_b1 r0 m n) (fun st1 => ⟨fr [(0, .sl (.pair (.int .i64) (.int .i64)) r0), (1, .int .i64 m), (2, .int .i64 n), (9, .sl (.pair (.int .i64) (.int .i64)) r0), (10, .int .i64 (r0.length : Int)), (11, .int .i64 st1)], hpGet [], gt⟩) 0 hw1 (zL [] [] []) ?_
  as_aux_lemma =>
   intro st1 x4 h hd3
   unfold linealref05_isRelation_b1 at h
   refine zo ?_
   refine zB [(0, .sl (.pair (.int .i64) (.int .i64)) r0), (1, .int .i64 m), (2, .int .i64 n), (9, .sl (.pair (.int .i64) (.int .i64)) r0), (10, .int .i64 (r0.length : Int)), (11, .int .i64 st1), (12, .bool (decide (st1 < (r0.length : Int))))] [] ?_
   refine AW.seq ?_
   refine zQ h (fun hb6 h => ?_) (fun hb6 h => ?_)
   ·refine zk ?_
    refine AW.seq ?_
    refine AW.block ?_
    refine zo ?_
    obtain ⟨c7, h⟩ := ck_some.1 h
    obtain ⟨c8, h⟩ := ck_some.1 h
    refine zS 5 [(0, .sl (.pair (.int .i64) (.int .i64)) r0), (1, .int .i64 m), (2, .int .i64 n), (7, .int .i64 st1), (8, .bp 8 0), (9, .sl (.pair (.int .i64) (.int .i64)) r0), (10, .int .i64 (r0.length : Int)), (11, .int .i64 st1), (15, .agg [.int .i64 (r0.getD st1.toNat (0, 0)).1, .int .i64 (r0.getD st1.toNat (0, 0)).2])] [(8, .box 58 [.int .i64 0, .int .i64 0])] ?_
    refine zB [(0, .sl (.pair (.int .i64) (.int .i64)) r0), (1, .int .i64 m), (2, .int .i64 n), (7, .int .i64 st1), (8, .bp 8 0), (9, .sl (.pair (.int .i64) (.int .i64)) r0), (10, .int .i64 (r0.length : Int)), (11, .int .i64 st1)] [(8, .box 58 [.int .i64 (r0.getD st1.toNat (0, 0)).1, .int .i64 (r0.getD st1.toNat (0, 0)).2])] ?_
    refine AW.seq ?_
    refine zo ?_
    refine zS 4 [(0, .sl (.pair (.int .i64) (.int .i64)) r0), (1, .int .i64 m), (2, .int .i64 n), (7, .int .i64 st1), (8, .bp 8 0), (9, .sl (.pair (.int .i64) (.int .i64)) r0), (10, .int .i64 (r0.length : Int)), (11, .int .i64 st1), (19, .bool (decide ((r0.getD st1.toNat (0, 0)).1 < 0)))] [(8, .box 58 [.int .i64 (r0.getD st1.toNat (0, 0)).1, .int .i64 (r0.getD st1.toNat (0, 0)).2])] ?_
    rcases zI h with ⟨hb9, h⟩ | ⟨hb9, h⟩
    ·refine zS 4 [(0, .sl (.pair (.int .i64) (.int .i64)) r0), (1, .int .i64 m), (2, .int .i64 n), (7, .int .i64 st1), (8, .bp 8 0), (9, .sl (.pair (.int .i64) (.int .i64)) r0), (10, .int .i64 (r0.length : Int)), (11, .int .i64 st1), (19, .bool true), (23, .cv (undef))] [(8, .box 58 [.int .i64 (r0.getD st1.toNat (0, 0)).1, .int .i64 (r0.getD st1.toNat (0, 0)).2])] ?_
     refine zS 5 [(0, .sl (.pair (.int .i64) (.int .i64)) r0), (1, .int .i64 m), (2, .int .i64 n), (7, .int .i64 st1), (8, .bp 8 0), (9, .sl (.pair (.int .i64) (.int .i64)) r0), (10, .int .i64 (r0.length : Int)), (11, .int .i64 st1), (25, .bool true), (28, .cv (undef))] [(8, .box 58 [.int .i64 (r0.getD st1.toNat (0, 0)).1, .int .i64 (r0.getD st1.toNat (0, 0)).2])] ?_
     refine zS 5 [(0, .sl (.pair (.int .i64) (.int .i64)) r0), (1, .int .i64 m), (2, .int .i64 n), (7, .int .i64 st1), (8, .bp 8 0), (9, .sl (.pair (.int .i64) (.int .i64)) r0), (10, .int .i64 (r0.length : Int)), (11, .int .i64 st1), (30, .bool true), (32, .cv (undef)), (33, .cv (undef))] [(8, .box 58 [.int .i64 (r0.getD st1.toNat (0, 0)).1, .int .i64 (r0.getD st1.toNat (0, 0)).2])] ?_
     refine zB [(0, .sl (.pair (.int .i64) (.int .i64)) r0), (1, .int .i64 m), (2, .int .i64 n), (7, .int .i64 st1), (8, .bp 8 0), (9, .sl (.pair (.int .i64) (.int .i64)) r0), (10, .int .i64 (r0.length : Int)), (11, .int .i64 st1), (35, .bool true)] [(8, .box 58 [.int .i64 (r0.getD st1.toNat (0, 0)).1, .int .i64 (r0.getD st1.toNat (0, 0)).2])] ?_
     refine AW.cond (b := true) rfl (fun _ => ?_) (fun hb10 => by cases hb10)
     refine zo ?_
     refine zB [(6, .bool false)] [] ?_
     refine zr ?_
     refine ablock_r ?_
     refine athen_r ?_
     obtain rfl := Option.some.inj h
     rw [← hd3 _ rfl] at ho2
     have h := ho2
     try simp only at h
     refine athen_r ?_
     refine ablock_r ?_
     refine athen_r ?_
     obtain rfl := Option.some.inj h
     exact zR [] [] []
    ·refine zS 5 [(0, .sl (.pair (.int .i64) (.int .i64)) r0), (1, .int .i64 m), (2, .int .i64 n), (7, .int .i64 st1), (8, .bp 8 0), (9, .sl (.pair (.int .i64) (.int .i64)) r0), (10, .int .i64 (r0.length : Int)), (11, .int .i64 st1), (24, .bool (decide (m ≤ (r0.getD st1.toNat (0, 0)).1)))] [(8, .box 58 [.int .i64 (r0.getD st1.toNat (0, 0)).1, .int .i64 (r0.getD st1.toNat (0, 0)).2])] ?_
     refine zS 1 [(0, .sl (.pair (.int .i64) (.int .i64)) r0), (1, .int .i64 m), (2, .int .i64 n), (7, .int .i64 st1), (8, .bp 8 0), (9, .sl (.pair (.int .i64) (.int .i64)) r0), (10, .int .i64 (r0.length : Int)), (11, .int .i64 st1), (25, .bool (decide (m ≤ (r0.getD st1.toNat (0, 0)).1)))] [(8, .box 58 [.int .i64 (r0.getD st1.toNat (0, 0)).1, .int .i64 (r0.getD st1.toNat (0, 0)).2])] ?_
     rcases zI h with ⟨hb11, h⟩ | ⟨hb11, h⟩
     ·refine zS 5 [(0, .sl (.pair (.int .i64) (.int .i64)) r0), (1, .int .i64 m), (2, .int .i64 n), (7, .int .i64 st1), (8, .bp 8 0), (9, .sl (.pair (.int .i64) (.int .i64)) r0), (10, .int .i64 (r0.length : Int)), (11, .int .i64 st1), (30, .bool true)] [(8, .box 58 [.int .i64 (r0.getD st1.toNat (0, 0)).1, .int .i64 (r0.getD st1.toNat (0, 0)).2])] ?_
      refine zS 4 [(0, .sl (.pair (.int .i64) (.int .i64)) r0), (1, .int .i64 m), (2, .int .i64 n), (7, .int .i64 st1), (8, .bp 8 0), (9, .sl (.pair (.int .i64) (.int .i64)) r0), (10, .int .i64 (r0.length : Int)), (11, .int .i64 st1), (30, .bool true), (34, .cv (undef))] [(8, .box 58 [.int .i64 (r0.getD st1.toNat (0, 0)).1, .int .i64 (r0.getD st1.toNat (0, 0)).2])] ?_
      refine zB [(0, .sl (.pair (.int .i64) (.int .i64)) r0), (1, .int .i64 m), (2, .int .i64 n), (7, .int .i64 st1), (8, .bp 8 0), (9, .sl (.pair (.int .i64) (.int .i64)) r0), (10, .int .i64 (r0.length : Int)), (11, .int .i64 st1), (35, .bool true)] [(8, .box 58 [.int .i64 (r0.getD st1.toNat (0, 0)).1, .int .i64 (r0.getD st1.toNat (0, 0)).2])] ?_
      refine AW.cond (b := true) rfl (fun _ => ?_) (fun hb12 => by cases hb12)
      refine zo ?_
      refine zB [(6, .bool false)] [] ?_
      refine zr ?_
      refine ablock_r ?_
      refine athen_r ?_
      obtain rfl := Option.some.inj h
      rw [← hd3 _ rfl] at ho2
      have h := ho2
      try simp only at h
      refine athen_r ?_
      refine ablock_r ?_
      refine athen_r ?_
      obtain rfl := Option.some.inj h
      exact zR [] [] []
     ·refine zS 5 [(0, .sl (.pair (.int .i64) (.int .i64)) r0), (1, .int .i64 m), (2, .int .i64 n), (7, .int .i64 st1), (8, .bp 8 0), (9, .sl (.pair (.int .i64) (.int .i64)) r0), (10, .int .i64 (r0.length : Int)), (11, .int .i64 st1), (30, .bool (decide ((r0.getD st1.toNat (0, 0)).2 < 0)))] [(8, .box 58 [.int .i64 (r0.getD st1.toNat (0, 0)).1, .int .i64 (r0.getD st1.toNat (0, 0)).2])] ?_
      rcases zI h with ⟨hb13, h⟩ | ⟨hb13, h⟩
      ·refine zS 4 [(0, .sl (.pair (.int .i64) (.int .i64)) r0), (1, .int .i64 m), (2, .int .i64 n), (7, .int .i64 st1), (8, .bp 8 0), (9, .sl (.pair (.int .i64) (.int .i64)) r0), (10, .int .i64 (r0.length : Int)), (11, .int .i64 st1), (30, .bool true), (34, .cv (undef))] [(8, .box 58 [.int .i64 (r0.getD st1.toNat (0, 0)).1, .int .i64 (r0.getD st1.toNat (0, 0)).2])] ?_
       refine zB [(0, .sl (.pair (.int .i64) (.int .i64)) r0), (1, .int .i64 m), (2, .int .i64 n), (7, .int .i64 st1), (8, .bp 8 0), (9, .sl (.pair (.int .i64) (.int .i64)) r0), (10, .int .i64 (r0.length : Int)), (11, .int .i64 st1), (35, .bool true)] [(8, .box 58 [.int .i64 (r0.getD st1.toNat (0, 0)).1, .int .i64 (r0.getD st1.toNat (0, 0)).2])] ?_
       refine AW.cond (b := true) rfl (fun _ => ?_) (fun hb14 => by cases hb14)
       refine zo ?_
       refine zB [(6, .bool false)] [] ?_
       refine zr ?_
       refine ablock_r ?_
       refine athen_r ?_
       obtain rfl := Option.some.inj h
       rw [← hd3 _ rfl] at ho2
       have h := ho2
       try simp only at h
       refine athen_r ?_
       refine ablock_r ?_
       refine athen_r ?_
       obtain rfl := Option.some.inj h
       exact zR [] [] []
      ·refine zB [(0, .sl (.pair (.int .i64) (.int .i64)) r0), (1, .int .i64 m), (2, .int .i64 n), (7, .int .i64 st1), (8, .bp 8 0), (9, .sl (.pair (.int .i64) (.int .i64)) r0), (10, .int .i64 (r0.length : Int)), (11, .int .i64 st1), (35, .bool (decide (n ≤ (r0.getD st1.toNat (0, 0)).2)))] [(8, .box 58 [.int .i64 (r0.getD st1.toNat (0, 0)).1, .int .i64 (r0.getD st1.toNat (0, 0)).2])] ?_
       refine zQ h (fun hb15 h => ?_) (fun hb15 h => ?_)
       ·refine zo ?_
        refine zB [(6, .bool false)] [] ?_
        refine zr ?_
        refine ablock_r ?_
        refine athen_r ?_
        obtain rfl := Option.some.inj h
        rw [← hd3 _ rfl] at ho2
        have h := ho2
        try simp only at h
        refine athen_r ?_
        refine ablock_r ?_
        refine athen_r ?_
        obtain rfl := Option.some.inj h
        exact zR [] [] []
       ·refine zk ?_
        refine AW.seq ?_
        refine AW.draw tab_ok mixed_ok [] [] (by decide) (lex_fast (by kernel_rfl)) ?_
        as_aux_lemma =>
         refine adops_cut 3 (fun K' hK16 => ?_)
         try dsimp only [List.drop_succ_cons, List.drop_zero, List.take_succ_cons, List.take_zero]
         simp only [go_sem, hb6, hb9, hb11, hb13, hb15]
         repeat with_reducible refine zN ?_
         refine hK16 _ ?_
         as_aux_lemma =>
          rcases zI h with ⟨hb17, h⟩ | ⟨hb17, h⟩
          ·simp only [hb17]
           as_aux_lemma =>
            obtain ⟨c19, h⟩ := ck_some.1 h
            obtain ⟨c20, h⟩ := ck_some.1 h
            obtain ⟨c21, h⟩ := ck_some.1 h
            refine adops_cut 6 (fun K' hK18 => ?_)
            try dsimp only [List.drop_succ_cons, List.drop_zero, List.take_succ_cons, List.take_zero]
            simp only [go_sem, hb6, hb9, hb11, hb13, hb15, hb17]
            repeat with_reducible refine zN ?_
            refine hK18 _ ?_
            as_aux_lemma =>
             refine adops_cut 4 (fun K' hK22 => ?_)
             try dsimp only [List.drop_succ_cons, List.drop_zero, List.take_succ_cons, List.take_zero]
             simp only [go_sem, hb6, hb9, hb11, hb13, hb15, hb17]
             repeat with_reducible refine zN ?_
             refine hK22 _ ?_
             as_aux_lemma =>
              rcases zI h with ⟨hb23, h⟩ | ⟨hb23, h⟩
              ·simp only [hb23]
               as_aux_lemma =>
                refine adops_cut 4 (fun K' hK24 => ?_)
                try dsimp only [List.drop_succ_cons, List.drop_zero, List.take_succ_cons, List.take_zero]
                simp only [go_sem, hb6, hb9, hb11, hb13, hb15, hb17, hb23]
                repeat with_reducible refine zN ?_
                refine hK24 _ ?_
                as_aux_lemma =>
                 refine adops_cut 4 (fun K' hK25 => ?_)
                 try dsimp only [List.drop_succ_cons, List.drop_zero, List.take_succ_cons, List.take_zero]
                 simp only [go_sem, hb6, hb9, hb11, hb13, hb15, hb17, hb23]
                 repeat with_reducible refine zN ?_
                 refine hK25 _ ?_
                 as_aux_lemma =>
                  refine adops_cut 4 (fun K' hK26 => ?_)
                  try dsimp only [List.drop_succ_cons, List.drop_zero, List.take_succ_cons, List.take_zero]
                  simp only [go_sem, hb6, hb9, hb11, hb13, hb15, hb17, hb23]
                  repeat with_reducible refine zN ?_
                  refine hK26 _ ?_
                  as_aux_lemma =>
                   refine adops_cut 4 (fun K' hK27 => ?_)
                   try dsimp only [List.drop_succ_cons, List.drop_zero, List.take_succ_cons, List.take_zero]
                   simp only [go_sem, hb6, hb9, hb11, hb13, hb15, hb17, hb23]
                   repeat with_reducible refine zN ?_
                   refine hK27 _ ?_
                   as_aux_lemma =>
                    refine adops_cut 4 (fun K' hK28 => ?_)
                    try dsimp only [List.drop_succ_cons, List.drop_zero, List.take_succ_cons, List.take_zero]
                    simp only [go_sem, hb6, hb9, hb11, hb13, hb15, hb17, hb23]
                    repeat with_reducible refine zN ?_
                    refine hK28 _ ?_
                    as_aux_lemma =>
                     refine adops_cut 2 (fun K' hK29 => ?_)
                     try dsimp only [List.drop_succ_cons, List.drop_zero, List.take_succ_cons, List.take_zero]
                     simp only [go_sem, hb6, hb9, hb11, hb13, hb15, hb17, hb23]
                     repeat with_reducible refine zN ?_
                     refine hK29 _ ?_
                     refine adops_nil ?_
                     refine athen_n ?_
                     refine zV [(0, .sl (.pair (.int .i64) (.int .i64)) r0), (1, .int .i64 m), (2, .int .i64 n), (9, .sl (.pair (.int .i64) (.int .i64)) r0), (10, .int .i64 (r0.length : Int)), (11, .int .i64 st1), (70, .bool true)] [] gt ?_
                     as_aux_lemma =>
                      refine AW.cond (b := true) rfl (fun _ => ?_) (fun hb30 => by cases hb30)
                      refine zo ?_
                      refine zB [(6, .bool false)] [] ?_
                      refine AW.ret ?_
                      refine ablock_r ?_
                      refine athen_r ?_
                      obtain rfl := Option.some.inj h
                      rw [← hd3 _ rfl] at ho2
                      have h := ho2
                      try simp only at h
                      refine athen_r ?_
                      refine ablock_r ?_
                      refine athen_r ?_
                      obtain rfl := Option.some.inj h
                      exact zR [] [] []
              ·simp only [hb23]
               as_aux_lemma =>
                obtain ⟨c32, h⟩ := ck_some.1 h
                obtain ⟨c33, h⟩ := ck_some.1 h
                obtain ⟨c34, h⟩ := ck_some.1 h
                refine adops_cut 6 (fun K' hK31 => ?_)
                try dsimp only [List.drop_succ_cons, List.drop_zero, List.take_succ_cons, List.take_zero]
                simp only [go_sem, hb6, hb9, hb11, hb13, hb15, hb17, hb23]
                repeat with_reducible refine zN ?_
                refine hK31 _ ?_
                as_aux_lemma =>
                 refine adops_cut 4 (fun K' hK35 => ?_)
                 try dsimp only [List.drop_succ_cons, List.drop_zero, List.take_succ_cons, List.take_zero]
                 simp only [go_sem, hb6, hb9, hb11, hb13, hb15, hb17, hb23]
                 repeat with_reducible refine zN ?_
                 refine hK35 _ ?_
                 as_aux_lemma =>
                  rcases zI h with ⟨hb36, h⟩ | ⟨hb36, h⟩
                  ·simp only [hb36]
                   as_aux_lemma =>
                    obtain ⟨c38, h⟩ := ck_some.1 h
                    obtain ⟨c39, h⟩ := ck_some.1 h
                    obtain ⟨c40, h⟩ := ck_some.1 h
                    refine adops_cut 6 (fun K' hK37 => ?_)
                    try dsimp only [List.drop_succ_cons, List.drop_zero, List.take_succ_cons, List.take_zero]
                    simp only [go_sem, hb6, hb9, hb11, hb13, hb15, hb17, hb23, hb36]
                    repeat with_reducible refine zN ?_
                    refine hK37 _ ?_
                    as_aux_lemma =>
                     refine adops_cut 6 (fun K' hK41 => ?_)
                     try dsimp only [List.drop_succ_cons, List.drop_zero, List.take_succ_cons, List.take_zero]
                     simp only [go_sem, hb6, hb9, hb11, hb13, hb15, hb17, hb23, hb36]
                     repeat with_reducible refine zN ?_
                     refine hK41 _ ?_
                     refine adops_nil ?_
                     refine athen_n ?_
                     refine zV [(0, .sl (.pair (.int .i64) (.int .i64)) r0), (1, .int .i64 m), (2, .int .i64 n), (9, .sl (.pair (.int .i64) (.int .i64)) r0), (10, .int .i64 (r0.length : Int)), (11, .int .i64 st1), (70, .bool (decide ((r0.getD st1.toNat (0, 0)).2 ≤ (r0.getD (st1 - 1).toNat (0, 0)).2)))] [] gt ?_
                     as_aux_lemma =>
                      refine zQ h (fun hb42 h => ?_) (fun hb42 h => ?_)
                      ·refine zo ?_
                       refine zB [(6, .bool false)] [] ?_
                       refine AW.ret ?_
                       refine ablock_r ?_
                       refine athen_r ?_
                       obtain rfl := Option.some.inj h
                       rw [← hd3 _ rfl] at ho2
                       have h := ho2
                       try simp only at h
                       refine athen_r ?_
                       refine ablock_r ?_
                       refine athen_r ?_
                       obtain rfl := Option.some.inj h
                       exact zR [] [] []
                      ·refine zm ?_
                       refine athen_n ?_
                       refine AW.ops ?_
                       obtain ⟨c43, h⟩ := ck_some.1 h
                       refine zA [(0, .sl (.pair (.int .i64) (.int .i64)) r0), (1, .int .i64 m), (2, .int .i64 n), (9, .sl (.pair (.int .i64) (.int .i64)) r0), (10, .int .i64 (r0.length : Int)), (11, .int .i64 (st1 + 1))] [] ?_
                       obtain rfl := Option.some.inj h
                       exact ⟨_, rfl, zL [] [] []⟩
                  ·simp only [hb36]
                   as_aux_lemma =>
                    refine adops_cut 4 (fun K' hK44 => ?_)
                    try dsimp only [List.drop_succ_cons, List.drop_zero, List.take_succ_cons, List.take_zero]
                    simp only [go_sem, hb6, hb9, hb11, hb13, hb15, hb17, hb23, hb36]
                    repeat with_reducible refine zN ?_
                    refine hK44 _ ?_
                    as_aux_lemma =>
                     refine adops_cut 4 (fun K' hK45 => ?_)
                     try dsimp only [List.drop_succ_cons, List.drop_zero, List.take_succ_cons, List.take_zero]
                     simp only [go_sem, hb6, hb9, hb11, hb13, hb15, hb17, hb23, hb36]
                     repeat with_reducible refine zN ?_
                     refine hK45 _ ?_
                     as_aux_lemma =>
                      refine adops_cut 4 (fun K' hK46 => ?_)
                      try dsimp only [List.drop_succ_cons, List.drop_zero, List.take_succ_cons, List.take_zero]
                      simp only [go_sem, hb6, hb9, hb11, hb13, hb15, hb17, hb23, hb36]
                      repeat with_reducible refine zN ?_
                      refine hK46 _ ?_
                      refine adops_nil ?_
                      refine athen_n ?_
                      refine zV [(0, .sl (.pair (.int .i64) (.int .i64)) r0), (1, .int .i64 m), (2, .int .i64 n), (9, .sl (.pair (.int .i64) (.int .i64)) r0), (10, .int .i64 (r0.length : Int)), (11, .int .i64 st1), (70, .bool false)] [] gt ?_
                      as_aux_lemma =>
                       refine AW.cond (b := false) rfl (fun hb47 => by cases hb47) (fun _ => ?_)
                       refine zm ?_
                       refine athen_n ?_
                       refine AW.ops ?_
                       obtain ⟨c48, h⟩ := ck_some.1 h
                       refine zA [(0, .sl (.pair (.int .i64) (.int .i64)) r0), (1, .int .i64 m), (2, .int .i64 n), (9, .sl (.pair (.int .i64) (.int .i64)) r0), (10, .int .i64 (r0.length : Int)), (11, .int .i64 (st1 + 1))] [] ?_
                       obtain rfl := Option.some.inj h
                       exact ⟨_, rfl, zL [] [] []⟩
          ·simp only [hb17]
           as_aux_lemma =>
            refine adops_cut 4 (fun K' hK49 => ?_)
            try dsimp only [List.drop_succ_cons, List.drop_zero, List.take_succ_cons, List.take_zero]
            simp only [go_sem, hb6, hb9, hb11, hb13, hb15, hb17]
            repeat with_reducible refine zN ?_
            refine hK49 _ ?_
            as_aux_lemma =>
             refine adops_cut 4 (fun K' hK50 => ?_)
             try dsimp only [List.drop_succ_cons, List.drop_zero, List.take_succ_cons, List.take_zero]
             simp only [go_sem, hb6, hb9, hb11, hb13, hb15, hb17]
             repeat with_reducible refine zN ?_
             refine hK50 _ ?_
             as_aux_lemma =>
              refine adops_cut 4 (fun K' hK51 => ?_)
              try dsimp only [List.drop_succ_cons, List.drop_zero, List.take_succ_cons, List.take_zero]
              simp only [go_sem, hb6, hb9, hb11, hb13, hb15, hb17]
              repeat with_reducible refine zN ?_
              refine hK51 _ ?_
              as_aux_lemma =>
               refine adops_cut 4 (fun K' hK52 => ?_)
               try dsimp only [List.drop_succ_cons, List.drop_zero, List.take_succ_cons, List.take_zero]
               simp only [go_sem, hb6, hb9, hb11, hb13, hb15, hb17]
               repeat with_reducible refine zN ?_
               refine hK52 _ ?_
               as_aux_lemma =>
                refine adops_cut 4 (fun K' hK53 => ?_)
                try dsimp only [List.drop_succ_cons, List.drop_zero, List.take_succ_cons, List.take_zero]
                simp only [go_sem, hb6, hb9, hb11, hb13, hb15, hb17]
                repeat with_reducible refine zN ?_
                refine hK53 _ ?_
                as_aux_lemma =>
                 refine adops_cut 4 (fun K' hK54 => ?_)
                 try dsimp only [List.drop_succ_cons, List.drop_zero, List.take_succ_cons, List.take_zero]
                 simp only [go_sem, hb6, hb9, hb11, hb13, hb15, hb17]
                 repeat with_reducible refine zN ?_
                 refine hK54 _ ?_
                 as_aux_lemma =>
                  refine adops_cut 4 (fun K' hK55 => ?_)
                  try dsimp only [List.drop_succ_cons, List.drop_zero, List.take_succ_cons, List.take_zero]
                  simp only [go_sem, hb6, hb9, hb11, hb13, hb15, hb17]
                  repeat with_reducible refine zN ?_
                  refine hK55 _ ?_
                  as_aux_lemma =>
                   refine adops_cut 4 (fun K' hK56 => ?_)
                   try dsimp only [List.drop_succ_cons, List.drop_zero, List.take_succ_cons, List.take_zero]
                   simp only [go_sem, hb6, hb9, hb11, hb13, hb15, hb17]
                   repeat with_reducible refine zN ?_
                   refine hK56 _ ?_
                   refine adops_nil ?_
                   refine athen_n ?_
                   refine zV [(0, .sl (.pair (.int .i64) (.int .i64)) r0), (1, .int .i64 m), (2, .int .i64 n), (9, .sl (.pair (.int .i64) (.int .i64)) r0), (10, .int .i64 (r0.length : Int)), (11, .int .i64 st1), (70, .bool false)] [] gt ?_
                   as_aux_lemma =>
                    refine AW.cond (b := false) rfl (fun hb57 => by cases hb57) (fun _ => ?_)
                    refine zm ?_
                    refine athen_n ?_
                    refine AW.ops ?_
                    obtain ⟨c58, h⟩ := ck_some.1 h
                    refine zA [(0, .sl (.pair (.int .i64) (.int .i64)) r0), (1, .int .i64 m), (2, .int .i64 n), (9, .sl (.pair (.int .i64) (.int .i64)) r0), (10, .int .i64 (r0.length : Int)), (11, .int .i64 (st1 + 1))] [] ?_
                    obtain rfl := Option.some.inj h
                    exact ⟨_, rfl, zL [] [] []⟩
   ·refine AW.exit ?_
    refine athen_e ?_
    obtain rfl := Option.some.inj h
    rw [← hd3 _ rfl] at ho2
    have h := ho2
    try simp only at h
    refine athen_e ?_
    refine ablock_s ?_
    refine athen_n ?_
    exact AW.weaken (zL [] [] []) (hk_linealref05_isRelation_k1 () h)

theorem hc_linealref05_list (set0 : Int) {r : (List Int)} (h : linealref05_list set0 = some r) : HC Try.prog 63 [] [.int .i64 set0] [(2000, .arr 3 (.int .i64) r)] (.own 2000) := by
 unfold linealref05_list at h
 refine zH Try.func63 [.tmp 2] 19 ?_
 refine zo ?_
 refine zB [(0, .int .i64 set0)] [] ?_
 refine zo ?_
 refine zB [(0, .int .i64 set0), (3, .cv (.slice none 0 0))] [] ?_
 refine AW.have1 (fun b1 : (List Int) => linealref05_list_k1 b1 = some r) (fun b1 => ⟨fr [(3, .own 16)], hpGet [(16, .arr 3 (.int .i64) b1)], gt⟩) (fun b1 h => ?_) (fun hk_linealref05_list_k1 => ?_)
 ·as_aux_lemma =>
   unfold linealref05_list_k1 at h
   refine zo ?_
   refine zB [(2, .own 16)] [(16, .arr 3 (.int .i64) b1)] ?_
   refine AW.ret ?_
   obtain rfl := Option.some.inj h
   exact zR [] [] [(2000, 16)]
 ·refine AW.seq ?_
  refine zo ?_
  refine zB [(0, .int .i64 set0), (3, .cv (.slice none 0 0)), (5, .int .i64 0)] [] ?_
  refine AW.block ?_
  obtain ⟨rv5, hw1, ho2⟩ := Option.bind_eq_some_iff.1 h
  refine AW.loopO (linealref05_list_b1 set0) (fun st1 => ⟨fr [(0, .int .i64 set0), (3, .own 16), (5, .int .i64 st1.2)], hpGet [(16, .arr 3 (.int .i64) st1.1)], gt⟩) ([], 0) hw1 (zL [] [16] []) ?_
  as_aux_lemma =>
   intro st1 x4 h hd3
   unfold linealref05_list_b1 at h
   refine zo ?_
   refine zB [(0, .int .i64 set0), (3, .own 16), (5, .int .i64 st1.2), (6, .bool (decide (st1.2 < 6)))] [(16, .arr 3 (.int .i64) st1.1)] ?_
   refine AW.seq ?_
   refine zQ h (fun hb6 h => ?_) (fun hb6 h => ?_)
   ·refine zk ?_
    refine AW.seq ?_
    refine AW.block ?_
    refine zo ?_
    refine zB [(0, .int .i64 set0), (3, .own 16), (4, .int .i64 st1.2), (5, .int .i64 st1.2)] [(16, .arr 3 (.int .i64) st1.1)] ?_
    refine zo ?_
    obtain ⟨c7, h⟩ := ck_some.1 h
    refine zB [(0, .int .i64 set0), (3, .own 16), (4, .int .i64 st1.2), (5, .int .i64 st1.2), (12, .bool (decide ((iand .i64 (ishr .i64 set0 st1.2) 1) = 1)))] [(16, .arr 3 (.int .i64) st1.1)] ?_
    refine zQ h (fun hb8 h => ?_) (fun hb8 h => ?_)
    ·refine AW.ops ?_
     obtain ⟨c9, h⟩ := ck_some.1 h
     refine zA [(0, .int .i64 set0), (3, .own 16), (5, .int .i64 st1.2)] [(16, .arr 3 (.int .i64) (st1.1 ++ [st1.2]))] ?_
     refine ablock_n ?_
     refine athen_n ?_
     refine AW.ops ?_
     obtain ⟨c10, h⟩ := ck_some.1 h
     refine zA [(0, .int .i64 set0), (3, .own 16), (5, .int .i64 (st1.2 + 1))] [(16, .arr 3 (.int .i64) (st1.1 ++ [st1.2]))] ?_
     obtain rfl := Option.some.inj h
     exact ⟨_, rfl, zL [] [] []⟩
    ·refine zm ?_
     refine athen_n ?_
     refine AW.ops ?_
     obtain ⟨c11, h⟩ := ck_some.1 h
     refine zA [(0, .int .i64 set0), (3, .own 16), (5, .int .i64 (st1.2 + 1))] [(16, .arr 3 (.int .i64) st1.1)] ?_
     obtain rfl := Option.some.inj h
     exact ⟨_, rfl, zL [] [] []⟩
   ·refine AW.exit ?_
    refine athen_e ?_
    obtain rfl := Option.some.inj h
    rw [← hd3 _ rfl] at ho2
    have h := ho2
    refine athen_e ?_
    refine ablock_s ?_
    refine athen_n ?_
    exact AW.weaken (zL [] [] []) (hk_linealref05_list_k1 _ h)

theorem hc_linealref05_relation (pairs : List Int) {r : (List (Int × Int))} (h : linealref05_relation pairs = some r) : HC Try.prog 83 [] [.sl (.int .i64) pairs] [(2000, .arr 58 (.pair (.int .i64) (.int .i64)) r)] (.own 2000) := by
 unfold linealref05_relation at h
 refine zH Try.func83 [.tmp 2] 31 ?_
 refine zo ?_
 refine zB [(0, .sl (.int .i64) pairs)] [] ?_
 refine zo ?_
 refine zB [(0, .sl (.int .i64) pairs), (3, .cv (.slice none 0 0))] [] ?_
 refine AW.have1 (fun b2_2 : (List (Int × Int)) => linealref05_relation_k1 b2_2 = some r) (fun b2_2 => ⟨fr [(3, .own 27)], hpGet [(27, .arr 58 (.pair (.int .i64) (.int .i64)) b2_2)], gt⟩) (fun b2_2 h => ?_) (fun hk_linealref05_relation_k1 => ?_)
 ·as_aux_lemma =>
   unfold linealref05_relation_k1 at h
   refine zo ?_
   refine zB [(2, .own 27)] [(27, .arr 58 (.pair (.int .i64) (.int .i64)) b2_2)] ?_
   refine AW.ret ?_
   obtain rfl := Option.some.inj h
   exact zR [] [] [(2000, 27)]
 ·refine AW.seq ?_
  refine zo ?_
  refine zB [(3, .cv (.slice none 0 0)), (8, .sl (.int .i64) pairs), (9, .int .i64 (pairs.length : Int)), (10, .int .i64 0)] [] ?_
  refine AW.block ?_
  obtain ⟨rv5, hw1, ho2⟩ := Option.bind_eq_some_iff.1 h
  refine AW.loopO (linealref05_relation_b1 pairs) (fun st1 => ⟨fr [(3, .own 27), (8, .sl (.int .i64) pairs), (9, .int .i64 (pairs.length : Int)), (10, .int .i64 st1.2)], hpGet [(27, .arr 58 (.pair (.int .i64) (.int .i64)) st1.1)], gt⟩) ([], 0) hw1 (zL [] [27] []) ?_
  as_aux_lemma =>
   intro st1 x4 h hd3
   unfold linealref05_relation_b1 at h
   refine zo ?_
   refine zB [(3, .own 27), (8, .sl (.int .i64) pairs), (9, .int .i64 (pairs.length : Int)), (10, .int .i64 st1.2), (11, .bool (decide (st1.2 < (pairs.length : Int))))] [(27, .arr 58 (.pair (.int .i64) (.int .i64)) st1.1)] ?_
   refine AW.seq ?_
   refine zQ h (fun hb6 h => ?_) (fun hb6 h => ?_)
   ·refine zk ?_
    refine AW.have1 (fun b2 : (List (Int × Int)) => linealref05_relation_k2 st1 b2 = some x4) (fun b2 => ⟨fr [(3, .own 27), (8, .sl (.int .i64) pairs), (9, .int .i64 (pairs.length : Int)), (10, .int .i64 st1.2)], hpGet [(27, .arr 58 (.pair (.int .i64) (.int .i64)) b2)], gt⟩) (fun b2 h => ?_) (fun hk_linealref05_relation_k2 => ?_)
    ·as_aux_lemma =>
      unfold linealref05_relation_k2 at h
      refine AW.ops ?_
      obtain ⟨c7, h⟩ := ck_some.1 h
      refine zA [(3, .own 27), (8, .sl (.int .i64) pairs), (9, .int .i64 (pairs.length : Int)), (10, .int .i64 (st1.2 + 1))] [(27, .arr 58 (.pair (.int .i64) (.int .i64)) b2)] ?_
      obtain rfl := Option.some.inj h
      exact ⟨_, rfl, zL [] [] []⟩
    ·refine AW.seq ?_
     refine AW.block ?_
     refine zo ?_
     obtain ⟨c8, h⟩ := ck_some.1 h
     obtain ⟨c9, h⟩ := ck_some.1 h
     refine zB [(3, .own 27), (4, .int .i64 st1.2), (5, .int .i64 (pairs.getD st1.2.toNat 0)), (8, .sl (.int .i64) pairs), (9, .int .i64 (pairs.length : Int)), (10, .int .i64 st1.2)] [(27, .arr 58 (.pair (.int .i64) (.int .i64)) st1.1)] ?_
     refine zo ?_
     refine zS 1 [(3, .own 27), (4, .int .i64 st1.2), (8, .sl (.int .i64) pairs), (9, .int .i64 (pairs.length : Int)), (10, .int .i64 st1.2), (15, .int .i64 (pairs.getD st1.2.toNat 0))] [(27, .arr 58 (.pair (.int .i64) (.int .i64)) st1.1)] ?_
     obtain ⟨v0, hv10, h⟩ := Option.bind_eq_some_iff.1 h
     refine zC [] [] (hc_linealref05_list (pairs.getD st1.2.toNat 0) hv10) [(3, .own 27), (4, .int .i64 st1.2), (8, .sl (.int .i64) pairs), (9, .int .i64 (pairs.length : Int)), (10, .int .i64 st1.2), (16, .own 26000)] [(27, .arr 58 (.pair (.int .i64) (.int .i64)) st1.1), (26000, .arr 3 (.int .i64) v0)] ?_
     refine zB [(3, .own 27), (4, .int .i64 st1.2), (8, .sl (.int .i64) pairs), (9, .int .i64 (pairs.length : Int)), (10, .int .i64 st1.2), (16, .own 26000), (17, .int .i64 (v0.length : Int)), (18, .int .i64 0)] [(27, .arr 58 (.pair (.int .i64) (.int .i64)) st1.1), (26000, .arr 3 (.int .i64) v0)] ?_
     refine AW.block ?_
     obtain ⟨rv15, hw11, ho12⟩ := Option.bind_eq_some_iff.1 h
     refine AW.loopO (linealref05_relation_b2 st1 v0) (fun st2 => ⟨fr [(3, .own 27), (4, .int .i64 st1.2), (8, .sl (.int .i64) pairs), (9, .int .i64 (pairs.length : Int)), (10, .int .i64 st1.2), (16, .own 26000), (17, .int .i64 (v0.length : Int)), (18, .int .i64 st2.2)], hpGet [(27, .arr 58 (.pair (.int .i64) (.int .i64)) st2.1), (26000, .arr 3 (.int .i64) v0)], gt⟩) (st1.1, 0) hw11 (zL [] [] []) ?_
     as_aux_lemma =>
      intro st2 x14 h hd13
      unfold linealref05_relation_b2 at h
      refine zo ?_
      refine zB [(3, .own 27), (4, .int .i64 st1.2), (8, .sl (.int .i64) pairs), (9, .int .i64 (pairs.length : Int)), (10, .int .i64 st1.2), (16, .own 26000), (17, .int .i64 (v0.length : Int)), (18, .int .i64 st2.2), (19, .bool (decide (st2.2 < (v0.length : Int))))] [(27, .arr 58 (.pair (.int .i64) (.int .i64)) st2.1), (26000, .arr 3 (.int .i64) v0)] ?_
      refine AW.seq ?_
      refine zQ h (fun hb16 h => ?_) (fun hb16 h => ?_)
      ·refine zk ?_
       refine AW.seq ?_
       refine AW.block ?_
       refine zo ?_
       obtain ⟨c17, h⟩ := ck_some.1 h
       obtain ⟨c18, h⟩ := ck_some.1 h
       refine zB [(3, .own 27), (4, .int .i64 st1.2), (7, .int .i64 (v0.getD st2.2.toNat 0)), (8, .sl (.int .i64) pairs), (9, .int .i64 (pairs.length : Int)), (10, .int .i64 st1.2), (16, .own 26000), (17, .int .i64 (v0.length : Int)), (18, .int .i64 st2.2)] [(27, .arr 58 (.pair (.int .i64) (.int .i64)) st2.1), (26000, .arr 3 (.int .i64) v0)] ?_
       refine AW.ops ?_
       refine zS 5 [(4, .int .i64 st1.2), (8, .sl (.int .i64) pairs), (9, .int .i64 (pairs.length : Int)), (10, .int .i64 st1.2), (16, .own 26000), (17, .int .i64 (v0.length : Int)), (18, .int .i64 st2.2), (22, .own 27), (26, .own 26)] [(26, .arr 58 (.pair (.int .i64) (.int .i64)) [(st1.2, (v0.getD st2.2.toNat 0))]), (27, .arr 58 (.pair (.int .i64) (.int .i64)) st2.1), (26000, .arr 3 (.int .i64) v0)] ?_
       obtain ⟨c19, h⟩ := ck_some.1 h
       refine zA [(3, .own 27), (4, .int .i64 st1.2), (8, .sl (.int .i64) pairs), (9, .int .i64 (pairs.length : Int)), (10, .int .i64 st1.2), (16, .own 26000), (17, .int .i64 (v0.length : Int)), (18, .int .i64 st2.2)] [(27, .arr 58 (.pair (.int .i64) (.int .i64)) (st2.1 ++ [(st1.2, (v0.getD st2.2.toNat 0))])), (26000, .arr 3 (.int .i64) v0)] ?_
       refine ablock_n ?_
       refine athen_n ?_
       refine AW.ops ?_
       obtain ⟨c20, h⟩ := ck_some.1 h
       refine zA [(3, .own 27), (4, .int .i64 st1.2), (8, .sl (.int .i64) pairs), (9, .int .i64 (pairs.length : Int)), (10, .int .i64 st1.2), (16, .own 26000), (17, .int .i64 (v0.length : Int)), (18, .int .i64 (st2.2 + 1))] [(27, .arr 58 (.pair (.int .i64) (.int .i64)) (st2.1 ++ [(st1.2, (v0.getD st2.2.toNat 0))])), (26000, .arr 3 (.int .i64) v0)] ?_
       obtain rfl := Option.some.inj h
       exact ⟨_, rfl, zL [] [] []⟩
      ·refine AW.exit ?_
       refine athen_e ?_
       obtain rfl := Option.some.inj h
       rw [← hd13 _ rfl] at ho12
       have h := ho12
       refine athen_e ?_
       refine ablock_s ?_
       refine ablock_n ?_
       refine athen_n ?_
       exact AW.weaken (zL [] [] []) (hk_linealref05_relation_k2 _ h)
   ·refine AW.exit ?_
    refine athen_e ?_
    obtain rfl := Option.some.inj h
    rw [← hd3 _ rfl] at ho2
    have h := ho2
    refine athen_e ?_
    refine ablock_s ?_
    refine athen_n ?_
    exact AW.weaken (zL [] [] []) (hk_linealref05_relation_k1 _ h)

end Go.Proofs.Ytifleoceebaooaa
