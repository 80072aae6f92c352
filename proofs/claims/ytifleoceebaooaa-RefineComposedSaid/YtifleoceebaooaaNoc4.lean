/-
  Made by wip/tool/dc.py out of the print of the program: contracts.
-/
import Derived.Test.YtifleoceebaooaaRfp
import Derived.Test.YtifleoceebaooaaShr
import Derived.Test.YtifleoceebaooaaAvd
import Derived.Test.YtifleoceebaooaaNoc2
namespace Go.Proofs.Ytifleoceebaooaa
open Go.RowKit

set_option linter.unusedSimpArgs false
set_option linter.unusedVariables false
set_option linter.constructorNameAsVariable false

set_option maxRecDepth 100000
set_option maxHeartbeats 2000000

theorem hc_refine_relation_list (r0 : (El T94)) {r : (List (Int × Int))} (h : refine_relation_list r0 = some r) : HC Try.prog 82 [] [.agg (cellsX T94 r0)] [(2000, .arr 58 (.pair (.int .i64) (.int .i64)) r)] (.own 2000) := by
 unfold refine_relation_list at h
 refine zH Try.func82 [.tmp 2] 29 ?_
 refine zo ?_
 refine zB [(1, .bp 1 0)] [(1, .box 94 (cellsX T94 r0))] ?_
 refine zo ?_
 refine zB [(1, .bp 1 0), (3, .cv (.slice none 0 0))] [(1, .box 94 (cellsX T94 r0))] ?_
 refine AW.have1 (fun b2_2 : (List (Int × Int)) => refine_relation_list_k1 b2_2 = some r) (fun b2_2 => ⟨fr [(3, .own 25)], hpGet [(25, .arr 58 (.pair (.int .i64) (.int .i64)) b2_2)], gt⟩) (fun b2_2 h => ?_) (fun hk_refine_relation_list_k1 => ?_)
 ·as_aux_lemma =>
   unfold refine_relation_list_k1 at h
   refine zo ?_
   refine zB [(2, .own 25)] [(25, .arr 58 (.pair (.int .i64) (.int .i64)) b2_2)] ?_
   refine AW.ret ?_
   obtain rfl := Option.some.inj h
   exact zR [] [] [(2000, 25)]
 ·refine AW.seq ?_
  refine zo ?_
  refine zB [(3, .cv (.slice none 0 0)), (8, .agg (cellsX T94 r0)), (9, .int .i64 0)] [] ?_
  refine AW.block ?_
  obtain ⟨rv5, hw1, ho2⟩ := Option.bind_eq_some_iff.1 h
  refine AW.loopO (refine_relation_list_b1 r0) (fun st1 => ⟨fr [(3, .own 25), (8, .agg (cellsX T94 r0)), (9, .int .i64 st1.2)], hpGet [(25, .arr 58 (.pair (.int .i64) (.int .i64)) st1.1)], gt⟩) ([], 0) hw1 (zL [] [25] []) ?_
  as_aux_lemma =>
   intro st1 x4 h hd3
   unfold refine_relation_list_b1 at h
   refine zo ?_
   refine zB [(3, .own 25), (8, .agg (cellsX T94 r0)), (9, .int .i64 st1.2), (10, .bool (decide (st1.2 < 6)))] [(25, .arr 58 (.pair (.int .i64) (.int .i64)) st1.1)] ?_
   refine AW.seq ?_
   refine zQ h (fun hb6 h => ?_) (fun hb6 h => ?_)
   ·refine zk ?_
    refine AW.have1 (fun b2 : (List (Int × Int)) => refine_relation_list_k2 st1 b2 = some x4) (fun b2 => ⟨fr [(3, .own 25), (8, .agg (cellsX T94 r0)), (9, .int .i64 st1.2)], hpGet [(25, .arr 58 (.pair (.int .i64) (.int .i64)) b2)], gt⟩) (fun b2 h => ?_) (fun hk_refine_relation_list_k2 => ?_)
    ·as_aux_lemma =>
      unfold refine_relation_list_k2 at h
      refine AW.ops ?_
      obtain ⟨c7, h⟩ := ck_some.1 h
      refine zA [(3, .own 25), (8, .agg (cellsX T94 r0)), (9, .int .i64 (st1.2 + 1))] [(25, .arr 58 (.pair (.int .i64) (.int .i64)) b2)] ?_
      obtain rfl := Option.some.inj h
      exact ⟨_, rfl, zL [] [] []⟩
    ·refine AW.seq ?_
     refine AW.block ?_
     refine zo ?_
     refine zS 1 [(3, .own 25), (8, .agg (cellsX T94 r0)), (9, .int .i64 st1.2), (11, .int .i64 st1.2)] [(25, .arr 58 (.pair (.int .i64) (.int .i64)) st1.1)] ?_
     obtain ⟨c8, h⟩ := ck_some.1 h
     obtain ⟨c9, h⟩ := ck_some.1 h
     have hx10 : (st1.2.toNat * 1) < 6 := by omega
     refine AO.idxA tab_ok (by decide) rfl rfl tab_94 rfl tab_67 rfl rfl (by first | assumption | omega | (simp only [go_sem, hb6, hx10]) <;> (with_reducible and_intros) <;> first | assumption | rfl | omega | (unfold maxLen; omega)) (by first | assumption | omega | (simp only [go_sem, hb6, hx10]) <;> (with_reducible and_intros) <;> first | assumption | rfl | omega | (unfold maxLen; omega)) (by first | assumption | omega | (simp only [go_sem, hb6, hx10]) <;> (with_reducible and_intros) <;> first | assumption | rfl | omega | (unfold maxLen; omega)) (.inr rfl) (v := .int .u8 (intAt T94 r0 (st1.2.toNat * 1))) (by first | assumption | omega | (simp only [go_sem, hb6, hx10]) <;> (with_reducible and_intros) <;> first | assumption | rfl | omega | (unfold maxLen; omega)) ?_
     refine zT [(3, .own 25), (8, .agg (cellsX T94 r0)), (9, .int .i64 st1.2), (11, .int .i64 st1.2), (12, .int .u8 (intAt T94 r0 (st1.2.toNat * 1)))] [(25, .arr 58 (.pair (.int .i64) (.int .i64)) st1.1)] gt ?_
     refine zB [(3, .own 25), (4, .int .i64 st1.2), (5, .int .u8 (intAt T94 r0 (st1.2.toNat * 1))), (8, .agg (cellsX T94 r0)), (9, .int .i64 st1.2)] [(25, .arr 58 (.pair (.int .i64) (.int .i64)) st1.1)] ?_
     refine zo ?_
     refine zS 1 [(3, .own 25), (4, .int .i64 st1.2), (8, .agg (cellsX T94 r0)), (9, .int .i64 st1.2), (13, .int .u8 (intAt T94 r0 (st1.2.toNat * 1)))] [(25, .arr 58 (.pair (.int .i64) (.int .i64)) st1.1)] ?_
     obtain ⟨v0, hv11, h⟩ := Option.bind_eq_some_iff.1 h
     refine zC [] [] (hc_refine_set_states (intAt T94 r0 (st1.2.toNat * 1)) hv11) [(3, .own 25), (4, .int .i64 st1.2), (8, .agg (cellsX T94 r0)), (9, .int .i64 st1.2), (14, .own 24000)] [(25, .arr 58 (.pair (.int .i64) (.int .i64)) st1.1), (24000, .arr 3 (.int .i64) v0)] ?_
     refine zB [(3, .own 25), (4, .int .i64 st1.2), (8, .agg (cellsX T94 r0)), (9, .int .i64 st1.2), (14, .own 24000), (15, .int .i64 (v0.length : Int)), (16, .int .i64 0)] [(25, .arr 58 (.pair (.int .i64) (.int .i64)) st1.1), (24000, .arr 3 (.int .i64) v0)] ?_
     refine AW.block ?_
     obtain ⟨rv16, hw12, ho13⟩ := Option.bind_eq_some_iff.1 h
     refine AW.loopO (refine_relation_list_b2 st1 v0) (fun st2 => ⟨fr [(3, .own 25), (4, .int .i64 st1.2), (8, .agg (cellsX T94 r0)), (9, .int .i64 st1.2), (14, .own 24000), (15, .int .i64 (v0.length : Int)), (16, .int .i64 st2.2)], hpGet [(25, .arr 58 (.pair (.int .i64) (.int .i64)) st2.1), (24000, .arr 3 (.int .i64) v0)], gt⟩) (st1.1, 0) hw12 (zL [] [] []) ?_
     as_aux_lemma =>
      intro st2 x15 h hd14
      unfold refine_relation_list_b2 at h
      refine zo ?_
      refine zB [(3, .own 25), (4, .int .i64 st1.2), (8, .agg (cellsX T94 r0)), (9, .int .i64 st1.2), (14, .own 24000), (15, .int .i64 (v0.length : Int)), (16, .int .i64 st2.2), (17, .bool (decide (st2.2 < (v0.length : Int))))] [(25, .arr 58 (.pair (.int .i64) (.int .i64)) st2.1), (24000, .arr 3 (.int .i64) v0)] ?_
      refine AW.seq ?_
      refine zQ h (fun hb17 h => ?_) (fun hb17 h => ?_)
      ·refine zk ?_
       refine AW.seq ?_
       refine AW.block ?_
       refine zo ?_
       obtain ⟨c18, h⟩ := ck_some.1 h
       obtain ⟨c19, h⟩ := ck_some.1 h
       refine zB [(3, .own 25), (4, .int .i64 st1.2), (7, .int .i64 (v0.getD st2.2.toNat 0)), (8, .agg (cellsX T94 r0)), (9, .int .i64 st1.2), (14, .own 24000), (15, .int .i64 (v0.length : Int)), (16, .int .i64 st2.2)] [(25, .arr 58 (.pair (.int .i64) (.int .i64)) st2.1), (24000, .arr 3 (.int .i64) v0)] ?_
       refine AW.ops ?_
       refine zS 5 [(4, .int .i64 st1.2), (8, .agg (cellsX T94 r0)), (9, .int .i64 st1.2), (14, .own 24000), (15, .int .i64 (v0.length : Int)), (16, .int .i64 st2.2), (20, .own 25), (24, .own 24)] [(24, .arr 58 (.pair (.int .i64) (.int .i64)) [(st1.2, (v0.getD st2.2.toNat 0))]), (25, .arr 58 (.pair (.int .i64) (.int .i64)) st2.1), (24000, .arr 3 (.int .i64) v0)] ?_
       obtain ⟨c20, h⟩ := ck_some.1 h
       refine zA [(3, .own 25), (4, .int .i64 st1.2), (8, .agg (cellsX T94 r0)), (9, .int .i64 st1.2), (14, .own 24000), (15, .int .i64 (v0.length : Int)), (16, .int .i64 st2.2)] [(25, .arr 58 (.pair (.int .i64) (.int .i64)) (st2.1 ++ [(st1.2, (v0.getD st2.2.toNat 0))])), (24000, .arr 3 (.int .i64) v0)] ?_
       refine ablock_n ?_
       refine athen_n ?_
       refine AW.ops ?_
       obtain ⟨c21, h⟩ := ck_some.1 h
       refine zA [(3, .own 25), (4, .int .i64 st1.2), (8, .agg (cellsX T94 r0)), (9, .int .i64 st1.2), (14, .own 24000), (15, .int .i64 (v0.length : Int)), (16, .int .i64 (st2.2 + 1))] [(25, .arr 58 (.pair (.int .i64) (.int .i64)) (st2.1 ++ [(st1.2, (v0.getD st2.2.toNat 0))])), (24000, .arr 3 (.int .i64) v0)] ?_
       obtain rfl := Option.some.inj h
       exact ⟨_, rfl, zL [] [] []⟩
      ·refine AW.exit ?_
       refine athen_e ?_
       obtain rfl := Option.some.inj h
       rw [← hd14 _ rfl] at ho13
       have h := ho13
       refine athen_e ?_
       refine ablock_s ?_
       refine ablock_n ?_
       refine athen_n ?_
       exact AW.weaken (zL [] [] []) (hk_refine_relation_list_k2 _ h)
   ·refine AW.exit ?_
    refine athen_e ?_
    obtain rfl := Option.some.inj h
    rw [← hd3 _ rfl] at ho2
    have h := ho2
    refine athen_e ?_
    refine ablock_s ?_
    refine athen_n ?_
    exact AW.weaken (zL [] [] []) (hk_refine_relation_list_k1 _ h)

theorem hc_cmp_isNaN (x0 : Int) {r : Unit} (h : cmp_isNaN x0 = some r) : HC Try.prog 134 [] [.int .i64 x0] [] (.bool false) := by
 unfold cmp_isNaN at h
 refine zH Try.func134 [.tmp 2] 6 ?_
 refine zo ?_
 refine zB [(0, .int .i64 x0)] [] ?_
 refine zo ?_
 refine zB [(2, .bool false)] [] ?_
 refine AW.ret ?_
 obtain rfl := Option.some.inj h
 exact zR [] [] []

theorem hc_cmp_Compare (x0 : Int) (y : Int) {r : Int} (h : cmp_Compare x0 y = some r) : HC Try.prog 130 [] [.int .i64 x0, .int .i64 y] [] (.int .i64 r) := by
 unfold cmp_Compare at h
 refine zH Try.func130 [.tmp 4] 20 ?_
 refine zo ?_
 refine zB [(0, .int .i64 x0), (1, .int .i64 y)] [] ?_
 refine zo ?_
 refine zS 1 [(0, .int .i64 x0), (1, .int .i64 y), (7, .int .i64 x0)] [] ?_
 obtain ⟨v0, hv1, h⟩ := Option.bind_eq_some_iff.1 h
 refine zC [] [] (hc_cmp_isNaN x0 hv1) [(0, .int .i64 x0), (1, .int .i64 y), (8, .bool false)] [] ?_
 refine zB [(0, .int .i64 x0), (1, .int .i64 y), (5, .bool false)] [] ?_
 refine zo ?_
 refine zS 1 [(0, .int .i64 x0), (1, .int .i64 y), (5, .bool false), (9, .int .i64 y)] [] ?_
 obtain ⟨v0_2, hv2, h⟩ := Option.bind_eq_some_iff.1 h
 refine zC [] [] (hc_cmp_isNaN y hv2) [(0, .int .i64 x0), (1, .int .i64 y), (5, .bool false), (10, .bool false)] [] ?_
 refine zB [(0, .int .i64 x0), (1, .int .i64 y), (5, .bool false), (6, .bool false)] [] ?_
 refine AW.seq ?_
 refine zo ?_
 refine zB [(0, .int .i64 x0), (1, .int .i64 y), (6, .bool false), (11, .bool false)] [] ?_
 refine AW.cond (b := false) rfl (fun hb3 => by cases hb3) (fun _ => ?_)
 refine zk ?_
 refine AW.seq ?_
 refine zo ?_
 refine zB [(0, .int .i64 x0), (1, .int .i64 y), (13, .bool false)] [] ?_
 refine AW.cond (b := false) rfl (fun hb4 => by cases hb4) (fun _ => ?_)
 refine zk ?_
 refine AW.seq ?_
 refine zo ?_
 refine zB [(0, .int .i64 x0), (1, .int .i64 y), (16, .bool (decide (x0 < y)))] [] ?_
 refine zQ h (fun hb5 h => ?_) (fun hb5 h => ?_)
 ·refine zo ?_
  refine zB [(4, .int .i64 (-1))] [] ?_
  refine zr ?_
  obtain rfl := Option.some.inj h
  exact zR [] [] []
 ·refine zk ?_
  refine AW.seq ?_
  refine zo ?_
  refine zB [(19, .bool (decide (y < x0)))] [] ?_
  refine zQ h (fun hb6 h => ?_) (fun hb6 h => ?_)
  ·refine zo ?_
   refine zB [(4, .int .i64 1)] [] ?_
   refine zr ?_
   obtain rfl := Option.some.inj h
   exact zR [] [] []
  ·refine zk ?_
   refine zo ?_
   refine zB [(4, .int .i64 0)] [] ?_
   refine AW.ret ?_
   obtain rfl := Option.some.inj h
   exact zR [] [] []

theorem hc_slices_Compare (s1 : List Int) (s2 : Int × Int) {r : Int} (h : slices_Compare s1 s2 = some r) : HC Try.prog 115 [(1000, .box 58 [.int .i64 s2.1, .int .i64 s2.2])] [.sl (.int .i64) s1, .vw 1000 1 0 2] [(1000, .box 58 [.int .i64 s2.1, .int .i64 s2.2])] (.int .i64 r) := by
 unfold slices_Compare at h
 refine zH Try.func115 [.tmp 4] 36 ?_
 refine zo ?_
 refine zB [(0, .sl (.int .i64) s1), (1, .vw 1000 1 0 2)] [(1000, .box 58 [.int .i64 s2.1, .int .i64 s2.2])] ?_
 refine AW.have1 (fun _ : Unit => slices_Compare_k1 s1 = some r) (fun _ => ⟨fr [(0, .sl (.int .i64) s1), (1, .vw 1000 1 0 2)], hpGet [(1000, .box 58 [.int .i64 s2.1, .int .i64 s2.2])], gt⟩) (fun _ h => ?_) (fun hk_slices_Compare_k1 => ?_)
 ·as_aux_lemma =>
   unfold slices_Compare_k1 at h
   refine AW.seq ?_
   refine zo ?_
   refine zB [(35, .bool (decide ((s1.length : Int) < 2)))] [(1000, .box 58 [.int .i64 s2.1, .int .i64 s2.2])] ?_
   refine zQ h (fun hb1 h => ?_) (fun hb1 h => ?_)
   ·refine zo ?_
    refine zB [(4, .int .i64 (-1))] [(1000, .box 58 [.int .i64 s2.1, .int .i64 s2.2])] ?_
    refine zr ?_
    obtain rfl := Option.some.inj h
    exact zR [] [] []
   ·refine zk ?_
    refine zo ?_
    refine zB [(4, .int .i64 0)] [(1000, .box 58 [.int .i64 s2.1, .int .i64 s2.2])] ?_
    refine AW.ret ?_
    obtain rfl := Option.some.inj h
    exact zR [] [] []
 ·refine AW.seq ?_
  refine zo ?_
  refine zB [(0, .sl (.int .i64) s1), (1, .vw 1000 1 0 2), (9, .sl (.int .i64) s1), (10, .int .i64 (s1.length : Int)), (11, .int .i64 0)] [(1000, .box 58 [.int .i64 s2.1, .int .i64 s2.2])] ?_
  refine AW.block ?_
  obtain ⟨rv6, hw2, ho3⟩ := Option.bind_eq_some_iff.1 h
  refine AW.loopO (slices_Compare_b1 s1 s2) (fun st1 => ⟨fr [(0, .sl (.int .i64) s1), (1, .vw 1000 1 0 2), (9, .sl (.int .i64) s1), (10, .int .i64 (s1.length : Int)), (11, .int .i64 st1)], hpGet [(1000, .box 58 [.int .i64 s2.1, .int .i64 s2.2])], gt⟩) 0 hw2 (zL [] [] []) ?_
  as_aux_lemma =>
   intro st1 x5 h hd4
   unfold slices_Compare_b1 at h
   refine zo ?_
   refine zB [(0, .sl (.int .i64) s1), (1, .vw 1000 1 0 2), (9, .sl (.int .i64) s1), (10, .int .i64 (s1.length : Int)), (11, .int .i64 st1), (12, .bool (decide (st1 < (s1.length : Int))))] [(1000, .box 58 [.int .i64 s2.1, .int .i64 s2.2])] ?_
   refine AW.seq ?_
   refine zQ h (fun hb7 h => ?_) (fun hb7 h => ?_)
   ·refine zk ?_
    refine AW.seq ?_
    refine AW.block ?_
    refine zo ?_
    obtain ⟨c8, h⟩ := ck_some.1 h
    obtain ⟨c9, h⟩ := ck_some.1 h
    refine zB [(0, .sl (.int .i64) s1), (1, .vw 1000 1 0 2), (5, .int .i64 st1), (6, .int .i64 (s1.getD st1.toNat 0)), (9, .sl (.int .i64) s1), (10, .int .i64 (s1.length : Int)), (11, .int .i64 st1)] [(1000, .box 58 [.int .i64 s2.1, .int .i64 s2.2])] ?_
    refine AW.seq ?_
    refine zo ?_
    refine zB [(0, .sl (.int .i64) s1), (1, .vw 1000 1 0 2), (5, .int .i64 st1), (6, .int .i64 (s1.getD st1.toNat 0)), (9, .sl (.int .i64) s1), (10, .int .i64 (s1.length : Int)), (11, .int .i64 st1), (19, .bool (decide (2 ≤ st1)))] [(1000, .box 58 [.int .i64 s2.1, .int .i64 s2.2])] ?_
    refine zQ h (fun hb10 h => ?_) (fun hb10 h => ?_)
    ·refine zo ?_
     refine zB [(4, .int .i64 1)] [(1000, .box 58 [.int .i64 s2.1, .int .i64 s2.2])] ?_
     refine zr ?_
     refine ablock_r ?_
     refine athen_r ?_
     obtain rfl := Option.some.inj h
     rw [← hd4 _ rfl] at ho3
     have h := ho3
     try simp only at h
     refine athen_r ?_
     refine ablock_r ?_
     refine athen_r ?_
     obtain rfl := Option.some.inj h
     exact zR [] [] []
    ·refine zk ?_
     refine AW.have1 (fun b2 : Int × Int × Int => slices_Compare_k2 b2 = some x5) (fun b2 => ⟨fr [(0, .sl (.int .i64) s1), (1, .vw 1000 1 0 2), (6, .int .i64 b2.1), (7, .int .i64 b2.2.1), (9, .sl (.int .i64) s1), (10, .int .i64 (s1.length : Int)), (11, .int .i64 b2.2.2)], hpGet [(1000, .box 58 [.int .i64 s2.1, .int .i64 s2.2])], gt⟩) (fun b2 h => ?_) (fun hk_slices_Compare_k2 => ?_)
     ·as_aux_lemma =>
       unfold slices_Compare_k2 at h
       refine zo ?_
       refine zS 2 [(0, .sl (.int .i64) s1), (1, .vw 1000 1 0 2), (9, .sl (.int .i64) s1), (10, .int .i64 (s1.length : Int)), (11, .int .i64 b2.2.2), (24, .int .i64 b2.1), (25, .int .i64 b2.2.1)] [(1000, .box 58 [.int .i64 s2.1, .int .i64 s2.2])] ?_
       obtain ⟨v0, hv11, h⟩ := Option.bind_eq_some_iff.1 h
       refine zC [] [] (hc_cmp_Compare b2.1 b2.2.1 hv11) [(0, .sl (.int .i64) s1), (1, .vw 1000 1 0 2), (9, .sl (.int .i64) s1), (10, .int .i64 (s1.length : Int)), (11, .int .i64 b2.2.2), (26, .int .i64 v0)] [(1000, .box 58 [.int .i64 s2.1, .int .i64 s2.2])] ?_
       refine zB [(0, .sl (.int .i64) s1), (1, .vw 1000 1 0 2), (8, .int .i64 v0), (9, .sl (.int .i64) s1), (10, .int .i64 (s1.length : Int)), (11, .int .i64 b2.2.2)] [(1000, .box 58 [.int .i64 s2.1, .int .i64 s2.2])] ?_
       refine zo ?_
       refine zB [(0, .sl (.int .i64) s1), (1, .vw 1000 1 0 2), (8, .int .i64 v0), (9, .sl (.int .i64) s1), (10, .int .i64 (s1.length : Int)), (11, .int .i64 b2.2.2), (28, .bool (!(decide (v0 = 0))))] [(1000, .box 58 [.int .i64 s2.1, .int .i64 s2.2])] ?_
       refine zQ h (fun hb12 h => ?_) (fun hb12 h => ?_)
       ·refine zo ?_
        refine zB [(4, .int .i64 v0)] [(1000, .box 58 [.int .i64 s2.1, .int .i64 s2.2])] ?_
        refine AW.ret ?_
        refine ablock_r ?_
        refine athen_r ?_
        obtain rfl := Option.some.inj h
        rw [← hd4 _ rfl] at ho3
        have h := ho3
        try simp only at h
        refine athen_r ?_
        refine ablock_r ?_
        refine athen_r ?_
        obtain rfl := Option.some.inj h
        exact zR [] [] []
       ·refine zm ?_
        refine athen_n ?_
        refine AW.ops ?_
        obtain ⟨c13, h⟩ := ck_some.1 h
        refine zA [(0, .sl (.int .i64) s1), (1, .vw 1000 1 0 2), (9, .sl (.int .i64) s1), (10, .int .i64 (s1.length : Int)), (11, .int .i64 (b2.2.2 + 1))] [(1000, .box 58 [.int .i64 s2.1, .int .i64 s2.2])] ?_
        obtain rfl := Option.some.inj h
        exact ⟨_, rfl, zL [] [] []⟩
     ·refine zo ?_
      obtain ⟨c14, h⟩ := ck_some.1 h
      obtain ⟨c15, h⟩ := ck_some.1 h
      refine zS 2 [(0, .sl (.int .i64) s1), (1, .vw 1000 1 0 2), (6, .int .i64 (s1.getD st1.toNat 0)), (9, .sl (.int .i64) s1), (10, .int .i64 (s1.length : Int)), (11, .int .i64 st1), (20, .vw 1000 1 0 2), (21, .int .i64 st1)] [(1000, .box 58 [.int .i64 s2.1, .int .i64 s2.2])] ?_
      rcases Bool.eq_false_or_eq_true (decide (st1 = 0)) with hb16 | hb16
      ·rw [if_pos hb16] at h
       have hz17 : st1 = 0 := by simpa using hb16
       refine zT [(0, .sl (.int .i64) s1), (1, .vw 1000 1 0 2), (6, .int .i64 (s1.getD 0 0)), (9, .sl (.int .i64) s1), (10, .int .i64 (s1.length : Int)), (11, .int .i64 0), (20, .vw 1000 1 0 2), (21, .int .i64 0)] [(1000, .box 58 [.int .i64 s2.1, .int .i64 s2.2])] gt ?_
       refine zB [(0, .sl (.int .i64) s1), (1, .vw 1000 1 0 2), (6, .int .i64 (s1.getD 0 0)), (7, .int .i64 s2.1), (9, .sl (.int .i64) s1), (10, .int .i64 (s1.length : Int)), (11, .int .i64 0)] [(1000, .box 58 [.int .i64 s2.1, .int .i64 s2.2])] ?_
       exact AW.weaken (zL [] [] []) (hk_slices_Compare_k2 _ h)
      ·rw [if_neg (Bool.eq_false_iff.1 hb16)] at h
       have hz17 : st1 = 1 := by have := of_decide_eq_false hb16; omega
       refine zT [(0, .sl (.int .i64) s1), (1, .vw 1000 1 0 2), (6, .int .i64 (s1.getD 1 0)), (9, .sl (.int .i64) s1), (10, .int .i64 (s1.length : Int)), (11, .int .i64 1), (20, .vw 1000 1 0 2), (21, .int .i64 1)] [(1000, .box 58 [.int .i64 s2.1, .int .i64 s2.2])] gt ?_
       refine zB [(0, .sl (.int .i64) s1), (1, .vw 1000 1 0 2), (6, .int .i64 (s1.getD 1 0)), (7, .int .i64 s2.2), (9, .sl (.int .i64) s1), (10, .int .i64 (s1.length : Int)), (11, .int .i64 1)] [(1000, .box 58 [.int .i64 s2.1, .int .i64 s2.2])] ?_
       exact AW.weaken (zL [] [] []) (hk_slices_Compare_k2 _ h)
   ·refine AW.exit ?_
    refine athen_e ?_
    obtain rfl := Option.some.inj h
    rw [← hd4 _ rfl] at ho3
    have h := ho3
    try simp only at h
    refine athen_e ?_
    refine ablock_s ?_
    refine athen_n ?_
    exact AW.weaken (zL [] [] []) (hk_slices_Compare_k1 () h)

theorem hc_refine_isRelation (list : List (Int × Int)) (n : Int) (m : Int) {r : Bool} (h : refine_isRelation list n m = some r) : HC Try.prog 86 [] [.sl (.pair (.int .i64) (.int .i64)) list, .int .i64 n, .int .i64 m] [] (.bool r) := by
 unfold refine_isRelation at h
 refine zH Try.func86 [.tmp 6] 49 ?_
 refine zo ?_
 refine zB [(0, .sl (.pair (.int .i64) (.int .i64)) list), (1, .int .i64 n), (2, .int .i64 m)] [] ?_
 refine AW.have1 (fun _ : Unit => refine_isRelation_k1 = some r) (fun _ => ⟨fr [], hpGet [], gt⟩) (fun _ h => ?_) (fun hk_refine_isRelation_k1 => ?_)
 ·as_aux_lemma =>
   unfold refine_isRelation_k1 at h
   refine zo ?_
   refine zB [(6, .bool true)] [] ?_
   refine AW.ret ?_
   obtain rfl := Option.some.inj h
   exact zR [] [] []
 ·refine AW.seq ?_
  refine zo ?_
  refine zB [(0, .sl (.pair (.int .i64) (.int .i64)) list), (1, .int .i64 n), (2, .int .i64 m), (9, .sl (.pair (.int .i64) (.int .i64)) list), (10, .int .i64 (list.length : Int)), (11, .int .i64 0)] [] ?_
  refine AW.block ?_
  obtain ⟨rv5, hw1, ho2⟩ := Option.bind_eq_some_iff.1 h
  refine AW.loopO (refine_isRelation_b1 list n m) (fun st1 => ⟨fr [(0, .sl (.pair (.int .i64) (.int .i64)) list), (1, .int .i64 n), (2, .int .i64 m), (9, .sl (.pair (.int .i64) (.int .i64)) list), (10, .int .i64 (list.length : Int)), (11, .int .i64 st1)], hpGet [], gt⟩) 0 hw1 (zL [] [] []) ?_
  as_aux_lemma =>
   intro st1 x4 h hd3
   unfold refine_isRelation_b1 at h
   refine zo ?_
   refine zB [(0, .sl (.pair (.int .i64) (.int .i64)) list), (1, .int .i64 n), (2, .int .i64 m), (9, .sl (.pair (.int .i64) (.int .i64)) list), (10, .int .i64 (list.length : Int)), (11, .int .i64 st1), (12, .bool (decide (st1 < (list.length : Int))))] [] ?_
   refine AW.seq ?_
   refine zQ h (fun hb6 h => ?_) (fun hb6 h => ?_)
   ·refine zk ?_
    refine AW.seq ?_
    refine AW.block ?_
    refine zo ?_
    obtain ⟨c7, h⟩ := ck_some.1 h
    obtain ⟨c8, h⟩ := ck_some.1 h
    refine zS 5 [(0, .sl (.pair (.int .i64) (.int .i64)) list), (1, .int .i64 n), (2, .int .i64 m), (7, .int .i64 st1), (8, .bp 8 0), (9, .sl (.pair (.int .i64) (.int .i64)) list), (10, .int .i64 (list.length : Int)), (11, .int .i64 st1), (15, .agg [.int .i64 (list.getD st1.toNat (0, 0)).1, .int .i64 (list.getD st1.toNat (0, 0)).2])] [(8, .box 58 [.int .i64 0, .int .i64 0])] ?_
    refine zB [(0, .sl (.pair (.int .i64) (.int .i64)) list), (1, .int .i64 n), (2, .int .i64 m), (7, .int .i64 st1), (8, .bp 8 0), (9, .sl (.pair (.int .i64) (.int .i64)) list), (10, .int .i64 (list.length : Int)), (11, .int .i64 st1)] [(8, .box 58 [.int .i64 (list.getD st1.toNat (0, 0)).1, .int .i64 (list.getD st1.toNat (0, 0)).2])] ?_
    refine AW.seq ?_
    refine zo ?_
    refine zS 4 [(0, .sl (.pair (.int .i64) (.int .i64)) list), (1, .int .i64 n), (2, .int .i64 m), (7, .int .i64 st1), (8, .bp 8 0), (9, .sl (.pair (.int .i64) (.int .i64)) list), (10, .int .i64 (list.length : Int)), (11, .int .i64 st1), (19, .bool (decide ((list.getD st1.toNat (0, 0)).1 < 0)))] [(8, .box 58 [.int .i64 (list.getD st1.toNat (0, 0)).1, .int .i64 (list.getD st1.toNat (0, 0)).2])] ?_
    rcases zI h with ⟨hb9, h⟩ | ⟨hb9, h⟩
    ·refine zS 4 [(0, .sl (.pair (.int .i64) (.int .i64)) list), (1, .int .i64 n), (2, .int .i64 m), (7, .int .i64 st1), (8, .bp 8 0), (9, .sl (.pair (.int .i64) (.int .i64)) list), (10, .int .i64 (list.length : Int)), (11, .int .i64 st1), (19, .bool true), (23, .cv (undef))] [(8, .box 58 [.int .i64 (list.getD st1.toNat (0, 0)).1, .int .i64 (list.getD st1.toNat (0, 0)).2])] ?_
     refine zS 5 [(0, .sl (.pair (.int .i64) (.int .i64)) list), (1, .int .i64 n), (2, .int .i64 m), (7, .int .i64 st1), (8, .bp 8 0), (9, .sl (.pair (.int .i64) (.int .i64)) list), (10, .int .i64 (list.length : Int)), (11, .int .i64 st1), (25, .bool true), (28, .cv (undef))] [(8, .box 58 [.int .i64 (list.getD st1.toNat (0, 0)).1, .int .i64 (list.getD st1.toNat (0, 0)).2])] ?_
     refine zS 5 [(0, .sl (.pair (.int .i64) (.int .i64)) list), (1, .int .i64 n), (2, .int .i64 m), (7, .int .i64 st1), (8, .bp 8 0), (9, .sl (.pair (.int .i64) (.int .i64)) list), (10, .int .i64 (list.length : Int)), (11, .int .i64 st1), (30, .bool true), (32, .cv (undef)), (33, .cv (undef))] [(8, .box 58 [.int .i64 (list.getD st1.toNat (0, 0)).1, .int .i64 (list.getD st1.toNat (0, 0)).2])] ?_
     refine zB [(0, .sl (.pair (.int .i64) (.int .i64)) list), (1, .int .i64 n), (2, .int .i64 m), (7, .int .i64 st1), (8, .bp 8 0), (9, .sl (.pair (.int .i64) (.int .i64)) list), (10, .int .i64 (list.length : Int)), (11, .int .i64 st1), (35, .bool true)] [(8, .box 58 [.int .i64 (list.getD st1.toNat (0, 0)).1, .int .i64 (list.getD st1.toNat (0, 0)).2])] ?_
     refine AW.cond (b := true) rfl (fun _ => ?_) (fun hb10 => by cases hb10)
     refine zo ?_
     refine zB [(6, .bool false)] [] ?_
     refine zr ?_
     refine ablock_r ?_
     refine athen_r ?_
     obtain rfl := Option.some.inj h
     rw [← hd3 _ rfl] at ho2
     have h := ho2
     try simp only at h
     refine athen_r ?_
     refine ablock_r ?_
     refine athen_r ?_
     obtain rfl := Option.some.inj h
     exact zR [] [] []
    ·refine zS 5 [(0, .sl (.pair (.int .i64) (.int .i64)) list), (1, .int .i64 n), (2, .int .i64 m), (7, .int .i64 st1), (8, .bp 8 0), (9, .sl (.pair (.int .i64) (.int .i64)) list), (10, .int .i64 (list.length : Int)), (11, .int .i64 st1), (24, .bool (decide (n ≤ (list.getD st1.toNat (0, 0)).1)))] [(8, .box 58 [.int .i64 (list.getD st1.toNat (0, 0)).1, .int .i64 (list.getD st1.toNat (0, 0)).2])] ?_
     refine zS 1 [(0, .sl (.pair (.int .i64) (.int .i64)) list), (1, .int .i64 n), (2, .int .i64 m), (7, .int .i64 st1), (8, .bp 8 0), (9, .sl (.pair (.int .i64) (.int .i64)) list), (10, .int .i64 (list.length : Int)), (11, .int .i64 st1), (25, .bool (decide (n ≤ (list.getD st1.toNat (0, 0)).1)))] [(8, .box 58 [.int .i64 (list.getD st1.toNat (0, 0)).1, .int .i64 (list.getD st1.toNat (0, 0)).2])] ?_
     rcases zI h with ⟨hb11, h⟩ | ⟨hb11, h⟩
     ·refine zS 5 [(0, .sl (.pair (.int .i64) (.int .i64)) list), (1, .int .i64 n), (2, .int .i64 m), (7, .int .i64 st1), (8, .bp 8 0), (9, .sl (.pair (.int .i64) (.int .i64)) list), (10, .int .i64 (list.length : Int)), (11, .int .i64 st1), (30, .bool true)] [(8, .box 58 [.int .i64 (list.getD st1.toNat (0, 0)).1, .int .i64 (list.getD st1.toNat (0, 0)).2])] ?_
      refine zS 4 [(0, .sl (.pair (.int .i64) (.int .i64)) list), (1, .int .i64 n), (2, .int .i64 m), (7, .int .i64 st1), (8, .bp 8 0), (9, .sl (.pair (.int .i64) (.int .i64)) list), (10, .int .i64 (list.length : Int)), (11, .int .i64 st1), (30, .bool true), (34, .cv (undef))] [(8, .box 58 [.int .i64 (list.getD st1.toNat (0, 0)).1, .int .i64 (list.getD st1.toNat (0, 0)).2])] ?_
      refine zB [(0, .sl (.pair (.int .i64) (.int .i64)) list), (1, .int .i64 n), (2, .int .i64 m), (7, .int .i64 st1), (8, .bp 8 0), (9, .sl (.pair (.int .i64) (.int .i64)) list), (10, .int .i64 (list.length : Int)), (11, .int .i64 st1), (35, .bool true)] [(8, .box 58 [.int .i64 (list.getD st1.toNat (0, 0)).1, .int .i64 (list.getD st1.toNat (0, 0)).2])] ?_
      refine AW.cond (b := true) rfl (fun _ => ?_) (fun hb12 => by cases hb12)
      refine zo ?_
      refine zB [(6, .bool false)] [] ?_
      refine zr ?_
      refine ablock_r ?_
      refine athen_r ?_
      obtain rfl := Option.some.inj h
      rw [← hd3 _ rfl] at ho2
      have h := ho2
      try simp only at h
      refine athen_r ?_
      refine ablock_r ?_
      refine athen_r ?_
      obtain rfl := Option.some.inj h
      exact zR [] [] []
     ·refine zS 5 [(0, .sl (.pair (.int .i64) (.int .i64)) list), (1, .int .i64 n), (2, .int .i64 m), (7, .int .i64 st1), (8, .bp 8 0), (9, .sl (.pair (.int .i64) (.int .i64)) list), (10, .int .i64 (list.length : Int)), (11, .int .i64 st1), (30, .bool (decide ((list.getD st1.toNat (0, 0)).2 < 0)))] [(8, .box 58 [.int .i64 (list.getD st1.toNat (0, 0)).1, .int .i64 (list.getD st1.toNat (0, 0)).2])] ?_
      rcases zI h with ⟨hb13, h⟩ | ⟨hb13, h⟩
      ·refine zS 4 [(0, .sl (.pair (.int .i64) (.int .i64)) list), (1, .int .i64 n), (2, .int .i64 m), (7, .int .i64 st1), (8, .bp 8 0), (9, .sl (.pair (.int .i64) (.int .i64)) list), (10, .int .i64 (list.length : Int)), (11, .int .i64 st1), (30, .bool true), (34, .cv (undef))] [(8, .box 58 [.int .i64 (list.getD st1.toNat (0, 0)).1, .int .i64 (list.getD st1.toNat (0, 0)).2])] ?_
       refine zB [(0, .sl (.pair (.int .i64) (.int .i64)) list), (1, .int .i64 n), (2, .int .i64 m), (7, .int .i64 st1), (8, .bp 8 0), (9, .sl (.pair (.int .i64) (.int .i64)) list), (10, .int .i64 (list.length : Int)), (11, .int .i64 st1), (35, .bool true)] [(8, .box 58 [.int .i64 (list.getD st1.toNat (0, 0)).1, .int .i64 (list.getD st1.toNat (0, 0)).2])] ?_
       refine AW.cond (b := true) rfl (fun _ => ?_) (fun hb14 => by cases hb14)
       refine zo ?_
       refine zB [(6, .bool false)] [] ?_
       refine zr ?_
       refine ablock_r ?_
       refine athen_r ?_
       obtain rfl := Option.some.inj h
       rw [← hd3 _ rfl] at ho2
       have h := ho2
       try simp only at h
       refine athen_r ?_
       refine ablock_r ?_
       refine athen_r ?_
       obtain rfl := Option.some.inj h
       exact zR [] [] []
      ·refine zB [(0, .sl (.pair (.int .i64) (.int .i64)) list), (1, .int .i64 n), (2, .int .i64 m), (7, .int .i64 st1), (8, .bp 8 0), (9, .sl (.pair (.int .i64) (.int .i64)) list), (10, .int .i64 (list.length : Int)), (11, .int .i64 st1), (35, .bool (decide (m ≤ (list.getD st1.toNat (0, 0)).2)))] [(8, .box 58 [.int .i64 (list.getD st1.toNat (0, 0)).1, .int .i64 (list.getD st1.toNat (0, 0)).2])] ?_
       refine zQ h (fun hb15 h => ?_) (fun hb15 h => ?_)
       ·refine zo ?_
        refine zB [(6, .bool false)] [] ?_
        refine zr ?_
        refine ablock_r ?_
        refine athen_r ?_
        obtain rfl := Option.some.inj h
        rw [← hd3 _ rfl] at ho2
        have h := ho2
        try simp only at h
        refine athen_r ?_
        refine ablock_r ?_
        refine athen_r ?_
        obtain rfl := Option.some.inj h
        exact zR [] [] []
       ·refine zk ?_
        refine AW.seq ?_
        refine AW.draw tab_ok mixed_ok [(9, [8])] [] (by decide) (lex_fast (by kernel_rfl)) ?_
        as_aux_lemma =>
         refine adops_cut 3 (fun K' hK16 => ?_)
         try dsimp only [List.drop_succ_cons, List.drop_zero, List.take_succ_cons, List.take_zero]
         simp only [go_sem, hb6, hb9, hb11, hb13, hb15]
         repeat with_reducible refine zN ?_
         refine hK16 _ ?_
         as_aux_lemma =>
          rcases zI h with ⟨hb17, h⟩ | ⟨hb17, h⟩
          ·simp only [hb17]
           as_aux_lemma =>
            obtain ⟨c19, h⟩ := ck_some.1 h
            obtain ⟨c20, h⟩ := ck_some.1 h
            obtain ⟨c21, h⟩ := ck_some.1 h
            refine adops_cut 6 (fun K' hK18 => ?_)
            try dsimp only [List.drop_succ_cons, List.drop_zero, List.take_succ_cons, List.take_zero]
            simp only [go_sem, hb6, hb9, hb11, hb13, hb15, hb17]
            repeat with_reducible refine zN ?_
            refine hK18 _ ?_
            as_aux_lemma =>
             obtain ⟨v0, hv22, h⟩ := Option.bind_eq_some_iff.1 h
             refine adops.call (by first | trivial | rfl) rfl rfl rfl (fun _ h => ⟨fun _ => h, fun hn => absurd rfl hn⟩) [] [(1000, 8)] (hc_slices_Compare [(list.getD (st1 - 1).toNat (0, 0)).1, (list.getD (st1 - 1).toNat (0, 0)).2] (list.getD st1.toNat (0, 0)) hv22) rfl (by (simp only [go_sem, hb6, hb9, hb11, hb13, hb15, hb17]) <;> (with_reducible and_intros) <;> first | assumption | rfl | omega | (unfold maxLen; omega)) (by (simp only [go_sem, hb6, hb9, hb11, hb13, hb15, hb17]) <;> (with_reducible and_intros) <;> first | assumption | rfl | omega | (unfold maxLen; omega)) rfl ?_
             refine adops_cut 2 (fun K' hK23 => ?_)
             try dsimp only [List.drop_succ_cons, List.drop_zero, List.take_succ_cons, List.take_zero]
             simp only [go_sem, hb6, hb9, hb11, hb13, hb15, hb17]
             repeat with_reducible refine zN ?_
             refine hK23 _ ?_
             refine adops_nil ?_
             refine athen_n ?_
             refine zV [(0, .sl (.pair (.int .i64) (.int .i64)) list), (1, .int .i64 n), (2, .int .i64 m), (9, .sl (.pair (.int .i64) (.int .i64)) list), (10, .int .i64 (list.length : Int)), (11, .int .i64 st1), (47, .bool (decide (0 ≤ v0)))] [] gt ?_
             as_aux_lemma =>
              refine zQ h (fun hb24 h => ?_) (fun hb24 h => ?_)
              ·refine zo ?_
               refine zB [(6, .bool false)] [] ?_
               refine AW.ret ?_
               refine ablock_r ?_
               refine athen_r ?_
               obtain rfl := Option.some.inj h
               rw [← hd3 _ rfl] at ho2
               have h := ho2
               try simp only at h
               refine athen_r ?_
               refine ablock_r ?_
               refine athen_r ?_
               obtain rfl := Option.some.inj h
               exact zR [] [] []
              ·refine zm ?_
               refine athen_n ?_
               refine AW.ops ?_
               obtain ⟨c25, h⟩ := ck_some.1 h
               refine zA [(0, .sl (.pair (.int .i64) (.int .i64)) list), (1, .int .i64 n), (2, .int .i64 m), (9, .sl (.pair (.int .i64) (.int .i64)) list), (10, .int .i64 (list.length : Int)), (11, .int .i64 (st1 + 1))] [] ?_
               obtain rfl := Option.some.inj h
               exact ⟨_, rfl, zL [] [] []⟩
          ·simp only [hb17]
           as_aux_lemma =>
            refine adops_cut 4 (fun K' hK26 => ?_)
            try dsimp only [List.drop_succ_cons, List.drop_zero, List.take_succ_cons, List.take_zero]
            simp only [go_sem, hb6, hb9, hb11, hb13, hb15, hb17]
            repeat with_reducible refine zN ?_
            refine hK26 _ ?_
            as_aux_lemma =>
             refine adops_cut 4 (fun K' hK27 => ?_)
             try dsimp only [List.drop_succ_cons, List.drop_zero, List.take_succ_cons, List.take_zero]
             simp only [go_sem, hb6, hb9, hb11, hb13, hb15, hb17]
             repeat with_reducible refine zN ?_
             refine hK27 _ ?_
             as_aux_lemma =>
              refine adops_cut 1 (fun K' hK28 => ?_)
              try dsimp only [List.drop_succ_cons, List.drop_zero, List.take_succ_cons, List.take_zero]
              simp only [go_sem, hb6, hb9, hb11, hb13, hb15, hb17]
              repeat with_reducible refine zN ?_
              refine hK28 _ ?_
              refine adops_nil ?_
              refine athen_n ?_
              refine zV [(0, .sl (.pair (.int .i64) (.int .i64)) list), (1, .int .i64 n), (2, .int .i64 m), (9, .sl (.pair (.int .i64) (.int .i64)) list), (10, .int .i64 (list.length : Int)), (11, .int .i64 st1), (47, .bool false)] [] gt ?_
              as_aux_lemma =>
               refine AW.cond (b := false) rfl (fun hb29 => by cases hb29) (fun _ => ?_)
               refine zm ?_
               refine athen_n ?_
               refine AW.ops ?_
               obtain ⟨c30, h⟩ := ck_some.1 h
               refine zA [(0, .sl (.pair (.int .i64) (.int .i64)) list), (1, .int .i64 n), (2, .int .i64 m), (9, .sl (.pair (.int .i64) (.int .i64)) list), (10, .int .i64 (list.length : Int)), (11, .int .i64 (st1 + 1))] [] ?_
               obtain rfl := Option.some.inj h
               exact ⟨_, rfl, zL [] [] []⟩
   ·refine AW.exit ?_
    refine athen_e ?_
    obtain rfl := Option.some.inj h
    rw [← hd3 _ rfl] at ho2
    have h := ho2
    try simp only at h
    refine athen_e ?_
    refine ablock_s ?_
    refine athen_n ?_
    exact AW.weaken (zL [] [] []) (hk_refine_isRelation_k1 () h)

theorem hc_refine_relationOf (list : List (Int × Int)) {r : (El T94)} (h : refine_relationOf list = some r) : HC Try.prog 87 [] [.sl (.pair (.int .i64) (.int .i64)) list] [] (.agg (cellsX T94 r)) := by
 unfold refine_relationOf at h
 refine zH Try.func87 [.cell 2 94] 23 ?_
 refine zo ?_
 refine zB [(0, .sl (.pair (.int .i64) (.int .i64)) list), (2, .bp 2 0)] [(2, .box 94 (cellsX T94 (Ty.dflt T94)))] ?_
 refine zo ?_
 refine zB [(0, .sl (.pair (.int .i64) (.int .i64)) list), (2, .bp 2 0), (3, .bp 3 0)] [(2, .box 94 (cellsX T94 (Ty.dflt T94))), (3, .box 94 (cellsX T94 (Ty.dflt T94)))] ?_
 refine AW.have1 (fun b1 : (El T94) => refine_relationOf_k1 b1 = some r) (fun b1 => ⟨fr [(2, .bp 2 0), (3, .bp 3 0)], hpGet [(2, .box 94 (cellsX T94 (Ty.dflt T94))), (3, .box 94 (cellsX T94 b1))], gt⟩) (fun b1 h => ?_) (fun hk_refine_relationOf_k1 => ?_)
 ·as_aux_lemma =>
   unfold refine_relationOf_k1 at h
   refine zo ?_
   refine zB [(2, .bp 2 0)] [(2, .box 94 (cellsX T94 b1))] ?_
   refine AW.ret ?_
   obtain rfl := Option.some.inj h
   exact zR [] [] []
 ·refine AW.seq ?_
  refine zo ?_
  refine zB [(2, .bp 2 0), (3, .bp 3 0), (6, .sl (.pair (.int .i64) (.int .i64)) list), (7, .int .i64 (list.length : Int)), (8, .int .i64 0)] [(2, .box 94 (cellsX T94 (Ty.dflt T94))), (3, .box 94 (cellsX T94 (Ty.dflt T94)))] ?_
  refine AW.block ?_
  obtain ⟨rv5, hw1, ho2⟩ := Option.bind_eq_some_iff.1 h
  refine AW.loopO (refine_relationOf_b1 list) (fun st1 => ⟨fr [(2, .bp 2 0), (3, .bp 3 0), (6, .sl (.pair (.int .i64) (.int .i64)) list), (7, .int .i64 (list.length : Int)), (8, .int .i64 st1.2)], hpGet [(2, .box 94 (cellsX T94 (Ty.dflt T94))), (3, .box 94 (cellsX T94 st1.1))], gt⟩) ((Ty.dflt T94), 0) hw1 (zL [] [] []) ?_
  as_aux_lemma =>
   intro st1 x4 h hd3
   unfold refine_relationOf_b1 at h
   refine zo ?_
   refine zB [(2, .bp 2 0), (3, .bp 3 0), (6, .sl (.pair (.int .i64) (.int .i64)) list), (7, .int .i64 (list.length : Int)), (8, .int .i64 st1.2), (9, .bool (decide (st1.2 < (list.length : Int))))] [(2, .box 94 (cellsX T94 (Ty.dflt T94))), (3, .box 94 (cellsX T94 st1.1))] ?_
   refine AW.seq ?_
   refine zQ h (fun hb6 h => ?_) (fun hb6 h => ?_)
   ·refine zk ?_
    refine AW.seq ?_
    refine AW.block ?_
    refine zo ?_
    obtain ⟨c7, h⟩ := ck_some.1 h
    obtain ⟨c8, h⟩ := ck_some.1 h
    refine zB [(2, .bp 2 0), (3, .bp 3 0), (5, .bp 5 0), (6, .sl (.pair (.int .i64) (.int .i64)) list), (7, .int .i64 (list.length : Int)), (8, .int .i64 st1.2)] [(2, .box 94 (cellsX T94 (Ty.dflt T94))), (3, .box 94 (cellsX T94 st1.1)), (5, .box 58 [.int .i64 (list.getD st1.2.toNat (0, 0)).1, .int .i64 (list.getD st1.2.toNat (0, 0)).2])] ?_
    refine AW.draw tab_ok mixed_ok [(9, [3])] [] (by decide) (lex_fast (by kernel_rfl)) ?_
    as_aux_lemma =>
     obtain ⟨c10, h⟩ := ck_some.1 h
     obtain ⟨c11, h⟩ := ck_some.1 h
     have hx12 : (0 + (list.getD st1.2.toNat (0, 0)).1.toNat * 1) < 6 := by omega
     refine adops_cut 6 (fun K' hK9 => ?_)
     try dsimp only [List.drop_succ_cons, List.drop_zero, List.take_succ_cons, List.take_zero]
     simp only [go_sem, hb6, hx12]
     repeat with_reducible refine zN ?_
     refine hK9 _ ?_
     as_aux_lemma =>
      obtain ⟨c14, h⟩ := ck_some.1 h
      obtain ⟨c15, h⟩ := ck_some.1 h
      obtain ⟨c16, h⟩ := ck_some.1 h
      have hx17 : (0 + (list.getD st1.2.toNat (0, 0)).1.toNat * 1) < 6 := by omega
      refine adops_cut 4 (fun K' hK13 => ?_)
      try dsimp only [List.drop_succ_cons, List.drop_zero, List.take_succ_cons, List.take_zero]
      simp only [go_sem, hb6, hx12, hx17]
      repeat with_reducible refine zN ?_
      refine hK13 _ ?_
      refine adops_nil ?_
      refine ablock_n ?_
      refine athen_n ?_
      refine zV [(2, .bp 2 0), (3, .bp 3 0), (6, .sl (.pair (.int .i64) (.int .i64)) list), (7, .int .i64 (list.length : Int)), (8, .int .i64 st1.2)] [(2, .box 94 (cellsX T94 (Ty.dflt T94))), (3, .box 94 (cellsX T94 (setInt T94 st1.1 (0 + (list.getD st1.2.toNat (0, 0)).1.toNat * 1) (ior .u8 (intAt T94 st1.1 (0 + (list.getD st1.2.toNat (0, 0)).1.toNat * 1)) (ishl .u8 1 (list.getD st1.2.toNat (0, 0)).2)))))] gt ?_
      as_aux_lemma =>
       refine AW.ops ?_
       obtain ⟨c18, h⟩ := ck_some.1 h
       refine zA [(2, .bp 2 0), (3, .bp 3 0), (6, .sl (.pair (.int .i64) (.int .i64)) list), (7, .int .i64 (list.length : Int)), (8, .int .i64 (st1.2 + 1))] [(2, .box 94 (cellsX T94 (Ty.dflt T94))), (3, .box 94 (cellsX T94 (setInt T94 st1.1 (0 + (list.getD st1.2.toNat (0, 0)).1.toNat * 1) (ior .u8 (intAt T94 st1.1 (0 + (list.getD st1.2.toNat (0, 0)).1.toNat * 1)) (ishl .u8 1 (list.getD st1.2.toNat (0, 0)).2)))))] ?_
       obtain rfl := Option.some.inj h
       exact ⟨_, rfl, zL [] [] []⟩
   ·refine AW.exit ?_
    refine athen_e ?_
    obtain rfl := Option.some.inj h
    rw [← hd3 _ rfl] at ho2
    have h := ho2
    refine athen_e ?_
    refine ablock_s ?_
    refine athen_n ?_
    exact AW.weaken (zL [] [] []) (hk_refine_relationOf_k1 _ h)

end Go.Proofs.Ytifleoceebaooaa
