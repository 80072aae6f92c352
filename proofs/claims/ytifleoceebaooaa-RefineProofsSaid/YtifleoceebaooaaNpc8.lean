/-
  Made by wip/tool/dc.py out of the print of the program: contracts.
-/
import Derived.Test.YtifleoceebaooaaRfp
import Derived.Test.YtifleoceebaooaaShr
import Derived.Test.YtifleoceebaooaaNpc2
import Derived.Test.YtifleoceebaooaaNpc5
import Derived.Test.YtifleoceebaooaaNpc6
import Derived.Test.YtifleoceebaooaaNpc7
namespace Go.Proofs.Ytifleoceebaooaa
open Go.RowKit

set_option linter.unusedSimpArgs false
set_option linter.unusedVariables false
set_option linter.constructorNameAsVariable false

set_option maxRecDepth 100000
set_option maxHeartbeats 2000000

theorem hc_linealref05_list (set0 : Int) {r : (List Int)} (h : linealref05_list set0 = some r) : HC Try.prog 63 [] [.int .i64 set0] [(2000, .arr 3 (.int .i64) r)] (.own 2000) := by
 unfold linealref05_list at h
 refine zH Try.func63 [.tmp 2] 19 ?_
 refine zo ?_
 refine zB [(0, .int .i64 set0)] [] ?_
 refine zo ?_
 refine zB [(0, .int .i64 set0), (3, .cv (.slice none 0 0))] [] ?_
 refine AW.have1 (fun b1 : (List Int) => linealref05_list_k1 b1 = some r) (fun b1 => ⟨fr [(3, .own 16)], hpGet [(16, .arr 3 (.int .i64) b1)], gt⟩) (fun b1 h => ?_) (fun hk_linealref05_list_k1 => ?_)
 ·as_aux_lemma =>
   unfold linealref05_list_k1 at h
   refine zo ?_
   refine zB [(2, .own 16)] [(16, .arr 3 (.int .i64) b1)] ?_
   refine AW.ret ?_
   obtain rfl := Option.some.inj h
   exact zR [] [] [(2000, 16)]
 ·refine AW.seq ?_
  refine zo ?_
  refine zB [(0, .int .i64 set0), (3, .cv (.slice none 0 0)), (5, .int .i64 0)] [] ?_
  refine AW.block ?_
  obtain ⟨rv5, hw1, ho2⟩ := Option.bind_eq_some_iff.1 h
  refine AW.loopO (linealref05_list_b1 set0) (fun st1 => ⟨fr [(0, .int .i64 set0), (3, .own 16), (5, .int .i64 st1.2)], hpGet [(16, .arr 3 (.int .i64) st1.1)], gt⟩) ([], 0) hw1 (zL [] [16] []) ?_
  as_aux_lemma =>
   intro st1 x4 h hd3
   unfold linealref05_list_b1 at h
   refine zo ?_
   refine zB [(0, .int .i64 set0), (3, .own 16), (5, .int .i64 st1.2), (6, .bool (decide (st1.2 < 6)))] [(16, .arr 3 (.int .i64) st1.1)] ?_
   refine AW.seq ?_
   refine zQ h (fun hb6 h => ?_) (fun hb6 h => ?_)
   ·refine zk ?_
    refine AW.seq ?_
    refine AW.block ?_
    refine zo ?_
    refine zB [(0, .int .i64 set0), (3, .own 16), (4, .int .i64 st1.2), (5, .int .i64 st1.2)] [(16, .arr 3 (.int .i64) st1.1)] ?_
    refine zo ?_
    obtain ⟨c7, h⟩ := ck_some.1 h
    refine zB [(0, .int .i64 set0), (3, .own 16), (4, .int .i64 st1.2), (5, .int .i64 st1.2), (12, .bool (decide ((iand .i64 (ishr .i64 set0 st1.2) 1) = 1)))] [(16, .arr 3 (.int .i64) st1.1)] ?_
    refine zQ h (fun hb8 h => ?_) (fun hb8 h => ?_)
    ·refine AW.ops ?_
     obtain ⟨c9, h⟩ := ck_some.1 h
     refine zA [(0, .int .i64 set0), (3, .own 16), (5, .int .i64 st1.2)] [(16, .arr 3 (.int .i64) (st1.1 ++ [st1.2]))] ?_
     refine ablock_n ?_
     refine athen_n ?_
     refine AW.ops ?_
     obtain ⟨c10, h⟩ := ck_some.1 h
     refine zA [(0, .int .i64 set0), (3, .own 16), (5, .int .i64 (st1.2 + 1))] [(16, .arr 3 (.int .i64) (st1.1 ++ [st1.2]))] ?_
     obtain rfl := Option.some.inj h
     exact ⟨_, rfl, zL [] [] []⟩
    ·refine zm ?_
     refine athen_n ?_
     refine AW.ops ?_
     obtain ⟨c11, h⟩ := ck_some.1 h
     refine zA [(0, .int .i64 set0), (3, .own 16), (5, .int .i64 (st1.2 + 1))] [(16, .arr 3 (.int .i64) st1.1)] ?_
     obtain rfl := Option.some.inj h
     exact ⟨_, rfl, zL [] [] []⟩
   ·refine AW.exit ?_
    refine athen_e ?_
    obtain rfl := Option.some.inj h
    rw [← hd3 _ rfl] at ho2
    have h := ho2
    refine athen_e ?_
    refine ablock_s ?_
    refine athen_n ?_
    exact AW.weaken (zL [] [] []) (hk_linealref05_list_k1 _ h)

theorem hc_linealref05_relation (pairs : List Int) {r : (List (Int × Int))} (h : linealref05_relation pairs = some r) : HC Try.prog 83 [] [.sl (.int .i64) pairs] [(2000, .arr 58 (.pair (.int .i64) (.int .i64)) r)] (.own 2000) := by
 unfold linealref05_relation at h
 refine zH Try.func83 [.tmp 2] 31 ?_
 refine zo ?_
 refine zB [(0, .sl (.int .i64) pairs)] [] ?_
 refine zo ?_
 refine zB [(0, .sl (.int .i64) pairs), (3, .cv (.slice none 0 0))] [] ?_
 refine AW.have1 (fun b2_2 : (List (Int × Int)) => linealref05_relation_k1 b2_2 = some r) (fun b2_2 => ⟨fr [(3, .own 27)], hpGet [(27, .arr 58 (.pair (.int .i64) (.int .i64)) b2_2)], gt⟩) (fun b2_2 h => ?_) (fun hk_linealref05_relation_k1 => ?_)
 ·as_aux_lemma =>
   unfold linealref05_relation_k1 at h
   refine zo ?_
   refine zB [(2, .own 27)] [(27, .arr 58 (.pair (.int .i64) (.int .i64)) b2_2)] ?_
   refine AW.ret ?_
   obtain rfl := Option.some.inj h
   exact zR [] [] [(2000, 27)]
 ·refine AW.seq ?_
  refine zo ?_
  refine zB [(3, .cv (.slice none 0 0)), (8, .sl (.int .i64) pairs), (9, .int .i64 (pairs.length : Int)), (10, .int .i64 0)] [] ?_
  refine AW.block ?_
  obtain ⟨rv5, hw1, ho2⟩ := Option.bind_eq_some_iff.1 h
  refine AW.loopO (linealref05_relation_b1 pairs) (fun st1 => ⟨fr [(3, .own 27), (8, .sl (.int .i64) pairs), (9, .int .i64 (pairs.length : Int)), (10, .int .i64 st1.2)], hpGet [(27, .arr 58 (.pair (.int .i64) (.int .i64)) st1.1)], gt⟩) ([], 0) hw1 (zL [] [27] []) ?_
  as_aux_lemma =>
   intro st1 x4 h hd3
   unfold linealref05_relation_b1 at h
   refine zo ?_
   refine zB [(3, .own 27), (8, .sl (.int .i64) pairs), (9, .int .i64 (pairs.length : Int)), (10, .int .i64 st1.2), (11, .bool (decide (st1.2 < (pairs.length : Int))))] [(27, .arr 58 (.pair (.int .i64) (.int .i64)) st1.1)] ?_
   refine AW.seq ?_
   refine zQ h (fun hb6 h => ?_) (fun hb6 h => ?_)
   ·refine zk ?_
    refine AW.have1 (fun b2 : (List (Int × Int)) => linealref05_relation_k2 st1 b2 = some x4) (fun b2 => ⟨fr [(3, .own 27), (8, .sl (.int .i64) pairs), (9, .int .i64 (pairs.length : Int)), (10, .int .i64 st1.2)], hpGet [(27, .arr 58 (.pair (.int .i64) (.int .i64)) b2)], gt⟩) (fun b2 h => ?_) (fun hk_linealref05_relation_k2 => ?_)
    ·as_aux_lemma =>
      unfold linealref05_relation_k2 at h
      refine AW.ops ?_
      obtain ⟨c7, h⟩ := ck_some.1 h
      refine zA [(3, .own 27), (8, .sl (.int .i64) pairs), (9, .int .i64 (pairs.length : Int)), (10, .int .i64 (st1.2 + 1))] [(27, .arr 58 (.pair (.int .i64) (.int .i64)) b2)] ?_
      obtain rfl := Option.some.inj h
      exact ⟨_, rfl, zL [] [] []⟩
    ·refine AW.seq ?_
     refine AW.block ?_
     refine zo ?_
     obtain ⟨c8, h⟩ := ck_some.1 h
     obtain ⟨c9, h⟩ := ck_some.1 h
     refine zB [(3, .own 27), (4, .int .i64 st1.2), (5, .int .i64 (pairs.getD st1.2.toNat 0)), (8, .sl (.int .i64) pairs), (9, .int .i64 (pairs.length : Int)), (10, .int .i64 st1.2)] [(27, .arr 58 (.pair (.int .i64) (.int .i64)) st1.1)] ?_
     refine zo ?_
     refine zS 1 [(3, .own 27), (4, .int .i64 st1.2), (8, .sl (.int .i64) pairs), (9, .int .i64 (pairs.length : Int)), (10, .int .i64 st1.2), (15, .int .i64 (pairs.getD st1.2.toNat 0))] [(27, .arr 58 (.pair (.int .i64) (.int .i64)) st1.1)] ?_
     obtain ⟨v0, hv10, h⟩ := Option.bind_eq_some_iff.1 h
     refine zC [] [] (hc_linealref05_list (pairs.getD st1.2.toNat 0) hv10) [(3, .own 27), (4, .int .i64 st1.2), (8, .sl (.int .i64) pairs), (9, .int .i64 (pairs.length : Int)), (10, .int .i64 st1.2), (16, .own 26000)] [(27, .arr 58 (.pair (.int .i64) (.int .i64)) st1.1), (26000, .arr 3 (.int .i64) v0)] ?_
     refine zB [(3, .own 27), (4, .int .i64 st1.2), (8, .sl (.int .i64) pairs), (9, .int .i64 (pairs.length : Int)), (10, .int .i64 st1.2), (16, .own 26000), (17, .int .i64 (v0.length : Int)), (18, .int .i64 0)] [(27, .arr 58 (.pair (.int .i64) (.int .i64)) st1.1), (26000, .arr 3 (.int .i64) v0)] ?_
     refine AW.block ?_
     obtain ⟨rv15, hw11, ho12⟩ := Option.bind_eq_some_iff.1 h
     refine AW.loopO (linealref05_relation_b2 st1 v0) (fun st2 => ⟨fr [(3, .own 27), (4, .int .i64 st1.2), (8, .sl (.int .i64) pairs), (9, .int .i64 (pairs.length : Int)), (10, .int .i64 st1.2), (16, .own 26000), (17, .int .i64 (v0.length : Int)), (18, .int .i64 st2.2)], hpGet [(27, .arr 58 (.pair (.int .i64) (.int .i64)) st2.1), (26000, .arr 3 (.int .i64) v0)], gt⟩) (st1.1, 0) hw11 (zL [] [] []) ?_
     as_aux_lemma =>
      intro st2 x14 h hd13
      unfold linealref05_relation_b2 at h
      refine zo ?_
      refine zB [(3, .own 27), (4, .int .i64 st1.2), (8, .sl (.int .i64) pairs), (9, .int .i64 (pairs.length : Int)), (10, .int .i64 st1.2), (16, .own 26000), (17, .int .i64 (v0.length : Int)), (18, .int .i64 st2.2), (19, .bool (decide (st2.2 < (v0.length : Int))))] [(27, .arr 58 (.pair (.int .i64) (.int .i64)) st2.1), (26000, .arr 3 (.int .i64) v0)] ?_
      refine AW.seq ?_
      refine zQ h (fun hb16 h => ?_) (fun hb16 h => ?_)
      ·refine zk ?_
       refine AW.seq ?_
       refine AW.block ?_
       refine zo ?_
       obtain ⟨c17, h⟩ := ck_some.1 h
       obtain ⟨c18, h⟩ := ck_some.1 h
       refine zB [(3, .own 27), (4, .int .i64 st1.2), (7, .int .i64 (v0.getD st2.2.toNat 0)), (8, .sl (.int .i64) pairs), (9, .int .i64 (pairs.length : Int)), (10, .int .i64 st1.2), (16, .own 26000), (17, .int .i64 (v0.length : Int)), (18, .int .i64 st2.2)] [(27, .arr 58 (.pair (.int .i64) (.int .i64)) st2.1), (26000, .arr 3 (.int .i64) v0)] ?_
       refine AW.ops ?_
       refine zS 5 [(4, .int .i64 st1.2), (8, .sl (.int .i64) pairs), (9, .int .i64 (pairs.length : Int)), (10, .int .i64 st1.2), (16, .own 26000), (17, .int .i64 (v0.length : Int)), (18, .int .i64 st2.2), (22, .own 27), (26, .own 26)] [(26, .arr 58 (.pair (.int .i64) (.int .i64)) [(st1.2, (v0.getD st2.2.toNat 0))]), (27, .arr 58 (.pair (.int .i64) (.int .i64)) st2.1), (26000, .arr 3 (.int .i64) v0)] ?_
       obtain ⟨c19, h⟩ := ck_some.1 h
       refine zA [(3, .own 27), (4, .int .i64 st1.2), (8, .sl (.int .i64) pairs), (9, .int .i64 (pairs.length : Int)), (10, .int .i64 st1.2), (16, .own 26000), (17, .int .i64 (v0.length : Int)), (18, .int .i64 st2.2)] [(27, .arr 58 (.pair (.int .i64) (.int .i64)) (st2.1 ++ [(st1.2, (v0.getD st2.2.toNat 0))])), (26000, .arr 3 (.int .i64) v0)] ?_
       refine ablock_n ?_
       refine athen_n ?_
       refine AW.ops ?_
       obtain ⟨c20, h⟩ := ck_some.1 h
       refine zA [(3, .own 27), (4, .int .i64 st1.2), (8, .sl (.int .i64) pairs), (9, .int .i64 (pairs.length : Int)), (10, .int .i64 st1.2), (16, .own 26000), (17, .int .i64 (v0.length : Int)), (18, .int .i64 (st2.2 + 1))] [(27, .arr 58 (.pair (.int .i64) (.int .i64)) (st2.1 ++ [(st1.2, (v0.getD st2.2.toNat 0))])), (26000, .arr 3 (.int .i64) v0)] ?_
       obtain rfl := Option.some.inj h
       exact ⟨_, rfl, zL [] [] []⟩
      ·refine AW.exit ?_
       refine athen_e ?_
       obtain rfl := Option.some.inj h
       rw [← hd13 _ rfl] at ho12
       have h := ho12
       refine athen_e ?_
       refine ablock_s ?_
       refine ablock_n ?_
       refine athen_n ?_
       exact AW.weaken (zL [] [] []) (hk_linealref05_relation_k2 _ h)
   ·refine AW.exit ?_
    refine athen_e ?_
    obtain rfl := Option.some.inj h
    rw [← hd3 _ rfl] at ho2
    have h := ho2
    refine athen_e ?_
    refine ablock_s ?_
    refine athen_n ?_
    exact AW.weaken (zL [] [] []) (hk_linealref05_relation_k1 _ h)

theorem hc_linealref05_SamePairs (a : List (Int × Int)) (b : List (Int × Int)) {r : Bool} (h : linealref05_SamePairs a b = some r) : HC Try.prog 34 [] [.sl (.pair (.int .i64) (.int .i64)) a, .sl (.pair (.int .i64) (.int .i64)) b] [] (.bool r) := by
 unfold linealref05_SamePairs at h
 refine zH Try.func34 [.tmp 4] 26 ?_
 refine zo ?_
 refine zB [(0, .sl (.pair (.int .i64) (.int .i64)) a), (1, .sl (.pair (.int .i64) (.int .i64)) b)] [] ?_
 refine AW.seq ?_
 refine zo ?_
 refine zB [(0, .sl (.pair (.int .i64) (.int .i64)) a), (1, .sl (.pair (.int .i64) (.int .i64)) b), (10, .bool (!(decide ((a.length : Int) = (b.length : Int)))))] [] ?_
 refine zQ h (fun hb1 h => ?_) (fun hb1 h => ?_)
 ·refine zo ?_
  refine zB [(4, .bool false)] [] ?_
  refine zr ?_
  obtain rfl := Option.some.inj h
  exact zR [] [] []
 ·refine zk ?_
  refine AW.have1 (fun _ : Unit => linealref05_SamePairs_k1 = some r) (fun _ => ⟨fr [], hpGet [], gt⟩) (fun _ h => ?_) (fun hk_linealref05_SamePairs_k1 => ?_)
  ·as_aux_lemma =>
    unfold linealref05_SamePairs_k1 at h
    refine zo ?_
    refine zB [(4, .bool true)] [] ?_
    refine AW.ret ?_
    obtain rfl := Option.some.inj h
    exact zR [] [] []
  ·refine AW.seq ?_
   refine zo ?_
   refine zB [(0, .sl (.pair (.int .i64) (.int .i64)) a), (1, .sl (.pair (.int .i64) (.int .i64)) b), (12, .int .i64 (a.length : Int)), (13, .int .i64 0)] [] ?_
   refine AW.block ?_
   obtain ⟨rv6, hw2, ho3⟩ := Option.bind_eq_some_iff.1 h
   refine AW.loopO (linealref05_SamePairs_b1 a b) (fun st1 => ⟨fr [(0, .sl (.pair (.int .i64) (.int .i64)) a), (1, .sl (.pair (.int .i64) (.int .i64)) b), (12, .int .i64 (a.length : Int)), (13, .int .i64 st1)], hpGet [], gt⟩) 0 hw2 (zL [] [] []) ?_
   as_aux_lemma =>
    intro st1 x5 h hd4
    unfold linealref05_SamePairs_b1 at h
    refine zo ?_
    refine zB [(0, .sl (.pair (.int .i64) (.int .i64)) a), (1, .sl (.pair (.int .i64) (.int .i64)) b), (12, .int .i64 (a.length : Int)), (13, .int .i64 st1), (14, .bool (decide (st1 < (a.length : Int))))] [] ?_
    refine AW.seq ?_
    refine zQ h (fun hb7 h => ?_) (fun hb7 h => ?_)
    ·refine zk ?_
     refine AW.seq ?_
     refine AW.block ?_
     refine zo ?_
     refine zB [(0, .sl (.pair (.int .i64) (.int .i64)) a), (1, .sl (.pair (.int .i64) (.int .i64)) b), (5, .int .i64 st1), (12, .int .i64 (a.length : Int)), (13, .int .i64 st1)] [] ?_
     refine AW.seq ?_
     refine AW.drawTail tab_ok mixed_ok 8 [] [] (by decide) (by kernel_rfl) (by kernel_rfl) (by decide) ?_
     dsimp only [List.take_succ_cons, List.take_zero]
     obtain ⟨c9, h⟩ := ck_some.1 h
     obtain ⟨c10, h⟩ := ck_some.1 h
     refine adops_cut 6 (fun K' hK8 => ?_)
     try dsimp only [List.drop_succ_cons, List.drop_zero, List.take_succ_cons, List.take_zero]
     simp only [go_sem, hb1, hb7]
     repeat with_reducible refine zN ?_
     refine hK8 _ ?_
     as_aux_lemma =>
      obtain ⟨c12, h⟩ := ck_some.1 h
      obtain ⟨c13, h⟩ := ck_some.1 h
      refine adops_cut 2 (fun K' hK11 => ?_)
      try dsimp only [List.drop_succ_cons, List.drop_zero, List.take_succ_cons, List.take_zero]
      simp only [go_sem, hb1, hb7]
      repeat with_reducible refine zN ?_
      refine hK11 _ ?_
      refine adops_nil ?_
      refine zT [(0, .sl (.pair (.int .i64) (.int .i64)) a), (1, .sl (.pair (.int .i64) (.int .i64)) b), (12, .int .i64 (a.length : Int)), (13, .int .i64 st1), (19, .agg [.int .i64 (a.getD st1.toNat (0, 0)).1, .int .i64 (a.getD st1.toNat (0, 0)).2]), (23, .agg [.int .i64 (b.getD st1.toNat (0, 0)).1, .int .i64 (b.getD st1.toNat (0, 0)).2])] [] gt ?_
      obtain ⟨c14, h⟩ := ck_some.1 h
      obtain ⟨c15, h⟩ := ck_some.1 h
      obtain ⟨c16, h⟩ := ck_some.1 h
      obtain ⟨c17, h⟩ := ck_some.1 h
      refine AO.aggEq (neg := true) eqty_58 (by decide) rfl rfl (lx := [.int .i64 (a.getD st1.toNat (0, 0)).1, .int .i64 (a.getD st1.toNat (0, 0)).2]) (ly := [.int .i64 (b.getD st1.toNat (0, 0)).1, .int .i64 (b.getD st1.toNat (0, 0)).2]) (by first | rfl | (simp only [go_sem, hb1, hb7]) <;> (with_reducible and_intros) <;> first | assumption | rfl | omega | (unfold maxLen; omega)) (by first | rfl | (simp only [go_sem, hb1, hb7]) <;> (with_reducible and_intros) <;> first | assumption | rfl | omega | (unfold maxLen; omega)) (by first | rfl | (simp only [go_sem, hb1, hb7]) <;> (with_reducible and_intros) <;> first | assumption | rfl | omega | (unfold maxLen; omega)) (by first | rfl | (simp only [go_sem, hb1, hb7]) <;> (with_reducible and_intros) <;> first | assumption | rfl | omega | (unfold maxLen; omega)) (by first | assumption | omega | (simp only [go_sem, hb1, hb7]) <;> (with_reducible and_intros) <;> first | assumption | rfl | omega | (unfold maxLen; omega)) (by first | assumption | omega | (simp only [go_sem, hb1, hb7]) <;> (with_reducible and_intros) <;> first | assumption | rfl | omega | (unfold maxLen; omega)) ?_
      refine zT [(0, .sl (.pair (.int .i64) (.int .i64)) a), (1, .sl (.pair (.int .i64) (.int .i64)) b), (12, .int .i64 (a.length : Int)), (13, .int .i64 st1), (24, .bool (!(decide ((a.getD st1.toNat (0, 0)) = (b.getD st1.toNat (0, 0))))))] [] gt ?_
      refine zB [(0, .sl (.pair (.int .i64) (.int .i64)) a), (1, .sl (.pair (.int .i64) (.int .i64)) b), (12, .int .i64 (a.length : Int)), (13, .int .i64 st1), (24, .bool (!(decide ((a.getD st1.toNat (0, 0)) = (b.getD st1.toNat (0, 0))))))] [] ?_
      refine zQ h (fun hb18 h => ?_) (fun hb18 h => ?_)
      ·refine zo ?_
       refine zB [(4, .bool false)] [] ?_
       refine AW.ret ?_
       refine ablock_r ?_
       refine athen_r ?_
       obtain rfl := Option.some.inj h
       rw [← hd4 _ rfl] at ho3
       have h := ho3
       try simp only at h
       refine athen_r ?_
       refine ablock_r ?_
       refine athen_r ?_
       obtain rfl := Option.some.inj h
       exact zR [] [] []
      ·refine zm ?_
       refine athen_n ?_
       refine AW.ops ?_
       obtain ⟨c19, h⟩ := ck_some.1 h
       refine zA [(0, .sl (.pair (.int .i64) (.int .i64)) a), (1, .sl (.pair (.int .i64) (.int .i64)) b), (12, .int .i64 (a.length : Int)), (13, .int .i64 (st1 + 1))] [] ?_
       obtain rfl := Option.some.inj h
       exact ⟨_, rfl, zL [] [] []⟩
    ·refine AW.exit ?_
     refine athen_e ?_
     obtain rfl := Option.some.inj h
     rw [← hd4 _ rfl] at ho3
     have h := ho3
     try simp only at h
     refine athen_e ?_
     refine ablock_s ?_
     refine athen_n ?_
     exact AW.weaken (zL [] [] []) (hk_linealref05_SamePairs_k1 () h)

theorem hc_refine_Best (c : Int × (List (Int × Int × Int))) (a : Int × (List (Int × Int × Int))) {r : (List (Int × Int)) × Int} (h : refine_Best c a = some r) : HC Try.prog 32 [] [.agg [.int .i64 c.1, .sl (.pair (.int .i64) (.pair (.int .i64) (.int .i64))) c.2], .agg [.int .i64 a.1, .sl (.pair (.int .i64) (.pair (.int .i64) (.int .i64))) a.2]] [(2000, .arr 58 (.pair (.int .i64) (.int .i64)) r.1)] (.tup [.own 2000, .int .i64 r.2]) := by
 unfold refine_Best at h
 refine zH Try.func32 [.tmp 4, .tmp 5] 20 ?_
 refine zo ?_
 refine zB [(2, .bp 2 0), (3, .bp 3 0)] [(2, .box 24 [.int .i64 c.1, .sl (.pair (.int .i64) (.pair (.int .i64) (.int .i64))) c.2]), (3, .box 24 [.int .i64 a.1, .sl (.pair (.int .i64) (.pair (.int .i64) (.int .i64))) a.2])] ?_
 refine zo ?_
 refine zS 2 [(9, .agg [.int .i64 c.1, .sl (.pair (.int .i64) (.pair (.int .i64) (.int .i64))) c.2]), (10, .agg [.int .i64 a.1, .sl (.pair (.int .i64) (.pair (.int .i64) (.int .i64))) a.2])] [] ?_
 obtain ⟨v0, hv1, h⟩ := Option.bind_eq_some_iff.1 h
 refine zC [] [] (hc_refine_twoOf c a hv1) [(11, .tup [.agg (.int .i64 v0.1 :: (.sl (.pair (.int .i64) (.pair (.int .i64) (.int .i64))) v0.2.1 :: (cellsX T69 v0.2.2.1 ++ (.int .i64 v0.2.2.2.1 :: (.sl (.pair (.int .i64) (.pair (.int .i64) (.int .i64))) v0.2.2.2.2.1 :: (cellsX T69 v0.2.2.2.2.2.1)))))), .int .i64 v0.2.2.2.2.2.2])] [] ?_
 refine zS 5 [(6, .bp 6 0), (13, .int .i64 v0.2.2.2.2.2.2)] [(6, .box 90 (.int .i64 v0.1 :: (.sl (.pair (.int .i64) (.pair (.int .i64) (.int .i64))) v0.2.1 :: (cellsX T69 v0.2.2.1 ++ (.int .i64 v0.2.2.2.1 :: (.sl (.pair (.int .i64) (.pair (.int .i64) (.int .i64))) v0.2.2.2.2.1 :: (cellsX T69 v0.2.2.2.2.2.1)))))))] ?_
 refine zB [(6, .bp 6 0), (7, .int .i64 v0.2.2.2.2.2.2)] [(6, .box 90 (.int .i64 v0.1 :: (.sl (.pair (.int .i64) (.pair (.int .i64) (.int .i64))) v0.2.1 :: (cellsX T69 v0.2.2.1 ++ (.int .i64 v0.2.2.2.1 :: (.sl (.pair (.int .i64) (.pair (.int .i64) (.int .i64))) v0.2.2.2.2.1 :: (cellsX T69 v0.2.2.2.2.2.1)))))))] ?_
 refine AW.seq ?_
 refine zo ?_
 refine zB [(6, .bp 6 0), (7, .int .i64 v0.2.2.2.2.2.2), (15, .bool (!(decide (v0.2.2.2.2.2.2 = 0))))] [(6, .box 90 (.int .i64 v0.1 :: (.sl (.pair (.int .i64) (.pair (.int .i64) (.int .i64))) v0.2.1 :: (cellsX T69 v0.2.2.1 ++ (.int .i64 v0.2.2.2.1 :: (.sl (.pair (.int .i64) (.pair (.int .i64) (.int .i64))) v0.2.2.2.2.1 :: (cellsX T69 v0.2.2.2.2.2.1)))))))] ?_
 refine zQ h (fun hb2 h => ?_) (fun hb2 h => ?_)
 ·refine zo ?_
  refine zB [(4, .cv (.slice none 0 0)), (5, .int .i64 v0.2.2.2.2.2.2)] [] ?_
  refine zr ?_
  obtain rfl := Option.some.inj h
  exact zR [] [2000] []
 ·refine zk ?_
  refine zo ?_
  refine zS 1 [(17, .agg (.int .i64 v0.1 :: (.sl (.pair (.int .i64) (.pair (.int .i64) (.int .i64))) v0.2.1 :: (cellsX T69 v0.2.2.1 ++ (.int .i64 v0.2.2.2.1 :: (.sl (.pair (.int .i64) (.pair (.int .i64) (.int .i64))) v0.2.2.2.2.1 :: (cellsX T69 v0.2.2.2.2.2.1)))))))] [] ?_
  obtain ⟨v0_2, hv3, h⟩ := Option.bind_eq_some_iff.1 h
  refine zC [] [] (hc_refine_two_best (((v0.1, v0.2.1), v0.2.2.1), (v0.2.2.2.1, v0.2.2.2.2.1), v0.2.2.2.2.2.1) hv3) [(18, .agg (cellsX T94 v0_2))] [] ?_
  obtain ⟨v0_3, hv4, h⟩ := Option.bind_eq_some_iff.1 h
  refine zC [] [] (hc_refine_relation_list v0_2 hv4) [(19, .own 29000)] [(29000, .arr 58 (.pair (.int .i64) (.int .i64)) v0_3)] ?_
  refine zB [(4, .own 29000), (5, .int .i64 0)] [(29000, .arr 58 (.pair (.int .i64) (.int .i64)) v0_3)] ?_
  refine AW.ret ?_
  obtain rfl := Option.some.inj h
  exact zR [] [] [(2000, 29000)]

theorem hc_refine_IsProof (c : Int × (List (Int × Int × Int))) (a : Int × (List (Int × Int × Int))) (relation : List (Int × Int)) {r : Bool × Int} (h : refine_IsProof c a relation = some r) : HC Try.prog 37 [] [.agg [.int .i64 c.1, .sl (.pair (.int .i64) (.pair (.int .i64) (.int .i64))) c.2], .agg [.int .i64 a.1, .sl (.pair (.int .i64) (.pair (.int .i64) (.int .i64))) a.2], .sl (.pair (.int .i64) (.int .i64)) relation] [] (.tup [.bool r.1, .int .i64 r.2]) := by
 unfold refine_IsProof at h
 refine zH Try.func37 [.tmp 6, .tmp 7] 34 ?_
 refine zo ?_
 refine zB [(2, .sl (.pair (.int .i64) (.int .i64)) relation), (3, .bp 3 0), (4, .bp 4 0)] [(3, .box 24 [.int .i64 c.1, .sl (.pair (.int .i64) (.pair (.int .i64) (.int .i64))) c.2]), (4, .box 24 [.int .i64 a.1, .sl (.pair (.int .i64) (.pair (.int .i64) (.int .i64))) a.2])] ?_
 refine zo ?_
 refine zS 2 [(2, .sl (.pair (.int .i64) (.int .i64)) relation), (3, .bp 3 0), (4, .bp 4 0), (12, .agg [.int .i64 c.1, .sl (.pair (.int .i64) (.pair (.int .i64) (.int .i64))) c.2]), (13, .agg [.int .i64 a.1, .sl (.pair (.int .i64) (.pair (.int .i64) (.int .i64))) a.2])] [(3, .box 24 [.int .i64 c.1, .sl (.pair (.int .i64) (.pair (.int .i64) (.int .i64))) c.2]), (4, .box 24 [.int .i64 a.1, .sl (.pair (.int .i64) (.pair (.int .i64) (.int .i64))) a.2])] ?_
 obtain ⟨v0, hv1, h⟩ := Option.bind_eq_some_iff.1 h
 refine zC [] [] (hc_refine_twoOf c a hv1) [(2, .sl (.pair (.int .i64) (.int .i64)) relation), (3, .bp 3 0), (4, .bp 4 0), (14, .tup [.agg (.int .i64 v0.1 :: (.sl (.pair (.int .i64) (.pair (.int .i64) (.int .i64))) v0.2.1 :: (cellsX T69 v0.2.2.1 ++ (.int .i64 v0.2.2.2.1 :: (.sl (.pair (.int .i64) (.pair (.int .i64) (.int .i64))) v0.2.2.2.2.1 :: (cellsX T69 v0.2.2.2.2.2.1)))))), .int .i64 v0.2.2.2.2.2.2])] [(3, .box 24 [.int .i64 c.1, .sl (.pair (.int .i64) (.pair (.int .i64) (.int .i64))) c.2]), (4, .box 24 [.int .i64 a.1, .sl (.pair (.int .i64) (.pair (.int .i64) (.int .i64))) a.2])] ?_
 refine zS 5 [(2, .sl (.pair (.int .i64) (.int .i64)) relation), (3, .bp 3 0), (4, .bp 4 0), (8, .bp 8 0), (16, .int .i64 v0.2.2.2.2.2.2)] [(3, .box 24 [.int .i64 c.1, .sl (.pair (.int .i64) (.pair (.int .i64) (.int .i64))) c.2]), (4, .box 24 [.int .i64 a.1, .sl (.pair (.int .i64) (.pair (.int .i64) (.int .i64))) a.2]), (8, .box 90 (.int .i64 v0.1 :: (.sl (.pair (.int .i64) (.pair (.int .i64) (.int .i64))) v0.2.1 :: (cellsX T69 v0.2.2.1 ++ (.int .i64 v0.2.2.2.1 :: (.sl (.pair (.int .i64) (.pair (.int .i64) (.int .i64))) v0.2.2.2.2.1 :: (cellsX T69 v0.2.2.2.2.2.1)))))))] ?_
 refine zB [(2, .sl (.pair (.int .i64) (.int .i64)) relation), (3, .bp 3 0), (4, .bp 4 0), (8, .bp 8 0), (9, .int .i64 v0.2.2.2.2.2.2)] [(3, .box 24 [.int .i64 c.1, .sl (.pair (.int .i64) (.pair (.int .i64) (.int .i64))) c.2]), (4, .box 24 [.int .i64 a.1, .sl (.pair (.int .i64) (.pair (.int .i64) (.int .i64))) a.2]), (8, .box 90 (.int .i64 v0.1 :: (.sl (.pair (.int .i64) (.pair (.int .i64) (.int .i64))) v0.2.1 :: (cellsX T69 v0.2.2.1 ++ (.int .i64 v0.2.2.2.1 :: (.sl (.pair (.int .i64) (.pair (.int .i64) (.int .i64))) v0.2.2.2.2.1 :: (cellsX T69 v0.2.2.2.2.2.1)))))))] ?_
 refine AW.seq ?_
 refine zo ?_
 refine zB [(2, .sl (.pair (.int .i64) (.int .i64)) relation), (3, .bp 3 0), (4, .bp 4 0), (8, .bp 8 0), (9, .int .i64 v0.2.2.2.2.2.2), (18, .bool (!(decide (v0.2.2.2.2.2.2 = 0))))] [(3, .box 24 [.int .i64 c.1, .sl (.pair (.int .i64) (.pair (.int .i64) (.int .i64))) c.2]), (4, .box 24 [.int .i64 a.1, .sl (.pair (.int .i64) (.pair (.int .i64) (.int .i64))) a.2]), (8, .box 90 (.int .i64 v0.1 :: (.sl (.pair (.int .i64) (.pair (.int .i64) (.int .i64))) v0.2.1 :: (cellsX T69 v0.2.2.1 ++ (.int .i64 v0.2.2.2.1 :: (.sl (.pair (.int .i64) (.pair (.int .i64) (.int .i64))) v0.2.2.2.2.1 :: (cellsX T69 v0.2.2.2.2.2.1)))))))] ?_
 refine zQ h (fun hb2 h => ?_) (fun hb2 h => ?_)
 ·refine zo ?_
  refine zB [(6, .bool false), (7, .int .i64 v0.2.2.2.2.2.2)] [] ?_
  refine zr ?_
  obtain rfl := Option.some.inj h
  exact zR [] [] []
 ·refine zk ?_
  refine AW.seq ?_
  refine zo ?_
  refine zS 5 [(2, .sl (.pair (.int .i64) (.int .i64)) relation), (8, .bp 8 0), (20, .sl (.pair (.int .i64) (.int .i64)) relation), (22, .int .i64 c.1), (24, .int .i64 a.1)] [(8, .box 90 (.int .i64 v0.1 :: (.sl (.pair (.int .i64) (.pair (.int .i64) (.int .i64))) v0.2.1 :: (cellsX T69 v0.2.2.1 ++ (.int .i64 v0.2.2.2.1 :: (.sl (.pair (.int .i64) (.pair (.int .i64) (.int .i64))) v0.2.2.2.2.1 :: (cellsX T69 v0.2.2.2.2.2.1)))))))] ?_
  obtain ⟨v0_2, hv3, h⟩ := Option.bind_eq_some_iff.1 h
  refine zC [] [] (hc_refine_isRelation relation c.1 a.1 hv3) [(2, .sl (.pair (.int .i64) (.int .i64)) relation), (8, .bp 8 0), (25, .bool v0_2)] [(8, .box 90 (.int .i64 v0.1 :: (.sl (.pair (.int .i64) (.pair (.int .i64) (.int .i64))) v0.2.1 :: (cellsX T69 v0.2.2.1 ++ (.int .i64 v0.2.2.2.1 :: (.sl (.pair (.int .i64) (.pair (.int .i64) (.int .i64))) v0.2.2.2.2.1 :: (cellsX T69 v0.2.2.2.2.2.1)))))))] ?_
  refine zB [(2, .sl (.pair (.int .i64) (.int .i64)) relation), (8, .bp 8 0), (26, .bool (!v0_2))] [(8, .box 90 (.int .i64 v0.1 :: (.sl (.pair (.int .i64) (.pair (.int .i64) (.int .i64))) v0.2.1 :: (cellsX T69 v0.2.2.1 ++ (.int .i64 v0.2.2.2.1 :: (.sl (.pair (.int .i64) (.pair (.int .i64) (.int .i64))) v0.2.2.2.2.1 :: (cellsX T69 v0.2.2.2.2.2.1)))))))] ?_
  refine zQ h (fun hb4 h => ?_) (fun hb4 h => ?_)
  ·refine zo ?_
   refine zB [(6, .bool false), (7, .int .i64 2)] [] ?_
   refine zr ?_
   obtain rfl := Option.some.inj h
   exact zR [] [] []
  ·refine zk ?_
   refine zo ?_
   refine zS 1 [(8, .bp 8 0), (27, .sl (.pair (.int .i64) (.int .i64)) relation)] [(8, .box 90 (.int .i64 v0.1 :: (.sl (.pair (.int .i64) (.pair (.int .i64) (.int .i64))) v0.2.1 :: (cellsX T69 v0.2.2.1 ++ (.int .i64 v0.2.2.2.1 :: (.sl (.pair (.int .i64) (.pair (.int .i64) (.int .i64))) v0.2.2.2.2.1 :: (cellsX T69 v0.2.2.2.2.2.1)))))))] ?_
   obtain ⟨v0_3, hv5, h⟩ := Option.bind_eq_some_iff.1 h
   refine zC [] [] (hc_refine_relationOf relation hv5) [(8, .bp 8 0), (28, .agg (cellsX T94 v0_3))] [(8, .box 90 (.int .i64 v0.1 :: (.sl (.pair (.int .i64) (.pair (.int .i64) (.int .i64))) v0.2.1 :: (cellsX T69 v0.2.2.1 ++ (.int .i64 v0.2.2.2.1 :: (.sl (.pair (.int .i64) (.pair (.int .i64) (.int .i64))) v0.2.2.2.2.1 :: (cellsX T69 v0.2.2.2.2.2.1)))))))] ?_
   refine zB [(8, .bp 8 0), (10, .bp 10 0)] [(8, .box 90 (.int .i64 v0.1 :: (.sl (.pair (.int .i64) (.pair (.int .i64) (.int .i64))) v0.2.1 :: (cellsX T69 v0.2.2.1 ++ (.int .i64 v0.2.2.2.1 :: (.sl (.pair (.int .i64) (.pair (.int .i64) (.int .i64))) v0.2.2.2.2.1 :: (cellsX T69 v0.2.2.2.2.2.1))))))), (10, .box 94 (cellsX T94 v0_3))] ?_
   refine AW.seq ?_
   refine AW.drawTail tab_ok mixed_ok 4 [] [] (by decide) (by kernel_rfl) (by kernel_rfl) (by decide) ?_
   dsimp only [List.take_succ_cons, List.take_zero]
   refine adops_cut 2 (fun K' hK6 => ?_)
   try dsimp only [List.drop_succ_cons, List.drop_zero, List.take_succ_cons, List.take_zero]
   simp only [go_sem, hb2, hb4]
   repeat with_reducible refine zN ?_
   refine hK6 _ ?_
   as_aux_lemma =>
    obtain ⟨v0_4, hv7, h⟩ := Option.bind_eq_some_iff.1 h
    refine adops.call (by first | trivial | rfl) rfl rfl rfl (fun _ h => h) [] [] (hc_refine_two_held (((v0.1, v0.2.1), v0.2.2.1), (v0.2.2.2.1, v0.2.2.2.2.1), v0.2.2.2.2.2.1) v0_3 hv7) rfl (by (simp only [go_sem, hb2, hb4]) <;> (with_reducible and_intros) <;> first | assumption | rfl | omega | (unfold maxLen; omega)) (by (simp only [go_sem, hb2, hb4]) <;> (with_reducible and_intros) <;> first | assumption | rfl | omega | (unfold maxLen; omega)) rfl ?_
    refine adops_cut 1 (fun K' hK8 => ?_)
    try dsimp only [List.drop_succ_cons, List.drop_zero, List.take_succ_cons, List.take_zero]
    simp only [go_sem, hb2, hb4]
    repeat with_reducible refine zN ?_
    refine hK8 _ ?_
    refine adops_nil ?_
    refine zT [(31, .agg (cellsX T94 v0_4)), (32, .agg (cellsX T94 v0_3))] [] gt ?_
    obtain ⟨c9, h⟩ := ck_some.1 h
    obtain ⟨c10, h⟩ := ck_some.1 h
    refine AO.aggEq (neg := false) eqty_94 (by decide) rfl rfl (lx := (cellsX T94 v0_4)) (ly := (cellsX T94 v0_3)) (by first | rfl | (simp only [go_sem, hb2, hb4]) <;> (with_reducible and_intros) <;> first | assumption | rfl | omega | (unfold maxLen; omega)) (by first | rfl | (simp only [go_sem, hb2, hb4]) <;> (with_reducible and_intros) <;> first | assumption | rfl | omega | (unfold maxLen; omega)) (by first | rfl | (simp only [go_sem, hb2, hb4]) <;> (with_reducible and_intros) <;> first | assumption | rfl | omega | (unfold maxLen; omega)) (by first | rfl | (simp only [go_sem, hb2, hb4]) <;> (with_reducible and_intros) <;> first | assumption | rfl | omega | (unfold maxLen; omega)) (by first | assumption | omega | (simp only [go_sem, hb2, hb4]) <;> (with_reducible and_intros) <;> first | assumption | rfl | omega | (unfold maxLen; omega)) (by first | assumption | omega | (simp only [go_sem, hb2, hb4]) <;> (with_reducible and_intros) <;> first | assumption | rfl | omega | (unfold maxLen; omega)) ?_
    refine zT [(33, .bool (decide (v0_4 = v0_3)))] [] gt ?_
    refine zB [(6, .bool (decide (v0_4 = v0_3))), (7, .int .i64 0)] [] ?_
    refine AW.ret ?_
    obtain rfl := Option.some.inj h
    exact zR [] [] []

theorem hc_math_bits_TrailingZeros8 (x0 : Int) {r : Unit} (h : math_bits_TrailingZeros8 x0 = some r) : HC Try.prog 129 [] [.int .u8 x0] [] (.int .i64 (strAt strL0 x0.toNat)) := by
 unfold math_bits_TrailingZeros8 at h
 refine zH Try.func129 [.tmp 2] 6 ?_
 refine zo ?_
 refine zB [(0, .int .u8 x0)] [] ?_
 refine zo ?_
 refine zS 1 [(3, .int .u8 x0)] [] ?_
 obtain ⟨c1, h⟩ := ck_some.1 h
 obtain ⟨c2, h⟩ := ck_some.1 h
 refine AO.idxStr (by decide) rfl rfl strL0 256 (by kernel_rfl) (by kernel_rfl) (by kernel_rfl) rfl (by first | assumption | omega | (simp only [go_sem]) <;> (with_reducible and_intros) <;> first | assumption | rfl | omega | (unfold maxLen; omega)) (by first | assumption | omega | (simp only [go_sem]) <;> (with_reducible and_intros) <;> first | assumption | rfl | omega | (unfold maxLen; omega)) ?_
 refine zT [(4, .int .u8 (strAt strL0 x0.toNat))] [] gt ?_
 obtain ⟨c3, h⟩ := ck_some.1 h
 refine zB [(2, .int .i64 (strAt strL0 x0.toNat))] [] ?_
 refine AW.ret ?_
 obtain rfl := Option.some.inj h
 exact zR [] [] []

theorem hc_refine_set_least (s : Int) {r : Unit} (h : refine_set_least s = some r) : HC Try.prog 114 [] [.int .u8 s] [] (.int .i64 (strAt strL0 s.toNat)) := by
 unfold refine_set_least at h
 refine zH Try.func114 [.tmp 2] 5 ?_
 refine zo ?_
 refine zB [(0, .int .u8 s)] [] ?_
 refine zo ?_
 refine zS 1 [(3, .int .u8 s)] [] ?_
 obtain ⟨v0, hv1, h⟩ := Option.bind_eq_some_iff.1 h
 refine zC [] [] (hc_math_bits_TrailingZeros8 s hv1) [(4, .int .i64 (strAt strL0 s.toNat))] [] ?_
 refine zB [(2, .int .i64 (strAt strL0 s.toNat))] [] ?_
 refine AW.ret ?_
 obtain rfl := Option.some.inj h
 exact zR [] [] []

end Go.Proofs.Ytifleoceebaooaa
