/-
  Made by wip/tool/dc.py out of the print of the program: contracts.
-/
import Derived.Test.YtifleoceebaooaaRfp
import Derived.Test.YtifleoceebaooaaShr
import Derived.Test.YtifleoceebaooaaAvd
namespace Go.Proofs.Ytifleoceebaooaa
open Go.RowKit

set_option linter.unusedSimpArgs false
set_option linter.unusedVariables false
set_option linter.constructorNameAsVariable false

set_option maxRecDepth 100000
set_option maxHeartbeats 2000000

theorem hc_lineallaw05_Long (s : Int × (List (Int × Int × Int))) {r : Unit} (h : lineallaw05_Long s = some r) : HC Try.prog 16 [] [.agg [.int .i64 s.1, .sl Y0 s.2]] [] (.bool (decide (100 < (s.2.length : Int)))) := by
 unfold lineallaw05_Long at h
 refine zH Try.func16 [.tmp 2] 7 ?_
 refine zo ?_
 refine zB [(1, .bp 1 0)] [(1, .box 24 [.int .i64 s.1, .sl Y0 s.2])] ?_
 refine zo ?_
 refine zB [(2, .bool (decide (100 < (s.2.length : Int))))] [] ?_
 refine AW.ret ?_
 obtain rfl := Option.some.inj h
 exact zR [] [] []

theorem hc_refine_isState (s : Int × (List (Int × Int × Int))) (state : Int) {r : Bool} (h : refine_isState s state = some r) : HC Try.prog 59 [] [.agg [.int .i64 s.1, .sl Y0 s.2], .int .i64 state] [] (.bool r) := by
 unfold refine_isState at h
 refine zH Try.func59 [.tmp 4] 13 ?_
 refine zo ?_
 refine zB [(1, .int .i64 state), (2, .bp 2 0)] [(2, .box 24 [.int .i64 s.1, .sl Y0 s.2])] ?_
 refine zo ?_
 refine zS 3 [(1, .int .i64 state), (2, .bp 2 0), (7, .bool (decide (0 ≤ state)))] [(2, .box 24 [.int .i64 s.1, .sl Y0 s.2])] ?_
 rcases zI h with ⟨hb1, h⟩ | ⟨hb1, h⟩
 ·refine zS 5 [(12, .bool (decide (state < s.1)))] [] ?_
  refine zB [(4, .bool (decide (state < s.1)))] [] ?_
  refine AW.ret ?_
  obtain rfl := Option.some.inj h
  exact zR [] [] []
 ·refine zS 4 [(7, .bool false), (11, .cv (undef))] [] ?_
  refine zB [(4, .bool false)] [] ?_
  refine AW.ret ?_
  obtain rfl := Option.some.inj h
  exact zR [] [] []

theorem hc_refine_isHidden (label : Int) {r : Unit} (h : refine_isHidden label = some r) : HC Try.prog 103 [] [.int .i64 label] [] (.bool (decide (label = 0))) := by
 unfold refine_isHidden at h
 refine zH Try.func103 [.tmp 2] 5 ?_
 refine zo ?_
 refine zB [(0, .int .i64 label)] [] ?_
 refine zo ?_
 refine zB [(2, .bool (decide (label = 0)))] [] ?_
 refine AW.ret ?_
 obtain rfl := Option.some.inj h
 exact zR [] [] []

theorem hc_refine_isSeen (label : Int) {r : Bool} (h : refine_isSeen label = some r) : HC Try.prog 73 [] [.int .i64 label] [] (.bool r) := by
 unfold refine_isSeen at h
 refine zH Try.func73 [.tmp 2] 9 ?_
 refine zo ?_
 refine zB [(0, .int .i64 label)] [] ?_
 refine zo ?_
 refine zS 3 [(0, .int .i64 label), (5, .bool (decide (0 < label)))] [] ?_
 rcases zI h with ⟨hb1, h⟩ | ⟨hb1, h⟩
 ·refine zB [(2, .bool (decide (label ≤ 3)))] [] ?_
  refine AW.ret ?_
  obtain rfl := Option.some.inj h
  exact zR [] [] []
 ·refine zB [(2, .bool false)] [] ?_
  refine AW.ret ?_
  obtain rfl := Option.some.inj h
  exact zR [] [] []

theorem hc_refine_isLabel (label : Int) {r : Bool} (h : refine_isLabel label = some r) : HC Try.prog 60 [] [.int .i64 label] [] (.bool r) := by
 unfold refine_isLabel at h
 refine zH Try.func60 [.tmp 2] 9 ?_
 refine zo ?_
 refine zB [(0, .int .i64 label)] [] ?_
 refine zo ?_
 refine zS 1 [(0, .int .i64 label), (3, .int .i64 label)] [] ?_
 obtain ⟨v0, hv1, h⟩ := Option.bind_eq_some_iff.1 h
 refine zC [] [] (hc_refine_isHidden label hv1) [(0, .int .i64 label), (4, .bool (decide (label = 0)))] [] ?_
 refine zS 1 [(0, .int .i64 label), (5, .bool (decide (label = 0)))] [] ?_
 rcases zI h with ⟨hb2, h⟩ | ⟨hb2, h⟩
 ·refine zB [(2, .bool true)] [] ?_
  refine AW.ret ?_
  obtain rfl := Option.some.inj h
  exact zR [] [] []
 ·refine zS 1 [(5, .bool false), (6, .int .i64 label)] [] ?_
  obtain ⟨v0_2, hv3, h⟩ := Option.bind_eq_some_iff.1 h
  refine zG [] [] (hc_refine_isSeen label hv3) [(5, .bool false), (7, .bool v0_2)] [] ?_
  refine zB [(2, .bool v0_2)] [] ?_
  refine AW.ret ?_
  obtain rfl := Option.some.inj h
  exact zR [] [] []

theorem hc_refine_isStep (s : Int × (List (Int × Int × Int))) (step : Int × Int × Int) {r : Bool} (h : refine_isStep s step = some r) : HC Try.prog 65 [] [.agg [.int .i64 s.1, .sl Y0 s.2], .agg [.int .i64 step.1, .int .i64 step.2.1, .int .i64 step.2.2]] [] (.bool r) := by
 unfold refine_isStep at h
 refine zH Try.func65 [.tmp 4] 20 ?_
 refine zo ?_
 refine zB [(2, .bp 2 0), (3, .bp 3 0)] [(2, .box 24 [.int .i64 s.1, .sl Y0 s.2]), (3, .box 66 [.int .i64 step.1, .int .i64 step.2.1, .int .i64 step.2.2])] ?_
 refine zo ?_
 refine zS 3 [(2, .bp 2 0), (3, .bp 3 0), (5, .agg [.int .i64 s.1, .sl Y0 s.2]), (7, .int .i64 step.1)] [(2, .box 24 [.int .i64 s.1, .sl Y0 s.2]), (3, .box 66 [.int .i64 step.1, .int .i64 step.2.1, .int .i64 step.2.2])] ?_
 obtain ⟨v0, hv1, h⟩ := Option.bind_eq_some_iff.1 h
 refine zC [] [] (hc_refine_isState s step.1 hv1) [(2, .bp 2 0), (3, .bp 3 0), (8, .bool v0)] [(2, .box 24 [.int .i64 s.1, .sl Y0 s.2]), (3, .box 66 [.int .i64 step.1, .int .i64 step.2.1, .int .i64 step.2.2])] ?_
 refine zS 1 [(2, .bp 2 0), (3, .bp 3 0), (9, .bool v0)] [(2, .box 24 [.int .i64 s.1, .sl Y0 s.2]), (3, .box 66 [.int .i64 step.1, .int .i64 step.2.1, .int .i64 step.2.2])] ?_
 rcases zI h with ⟨hb2, h⟩ | ⟨hb2, h⟩
 ·refine zS 2 [(2, .bp 2 0), (3, .bp 3 0), (9, .bool true), (11, .int .i64 step.2.1)] [(2, .box 24 [.int .i64 s.1, .sl Y0 s.2]), (3, .box 66 [.int .i64 step.1, .int .i64 step.2.1, .int .i64 step.2.2])] ?_
  obtain ⟨v0_2, hv3, h⟩ := Option.bind_eq_some_iff.1 h
  refine zG [] [] (hc_refine_isLabel step.2.1 hv3) [(2, .bp 2 0), (3, .bp 3 0), (9, .bool true), (12, .bool v0_2)] [(2, .box 24 [.int .i64 s.1, .sl Y0 s.2]), (3, .box 66 [.int .i64 step.1, .int .i64 step.2.1, .int .i64 step.2.2])] ?_
  refine zS 2 [(2, .bp 2 0), (3, .bp 3 0), (14, .bool v0_2)] [(2, .box 24 [.int .i64 s.1, .sl Y0 s.2]), (3, .box 66 [.int .i64 step.1, .int .i64 step.2.1, .int .i64 step.2.2])] ?_
  rcases zI h with ⟨hb4, h⟩ | ⟨hb4, h⟩
  ·refine zS 3 [(14, .bool true), (15, .agg [.int .i64 s.1, .sl Y0 s.2]), (17, .int .i64 step.2.2)] [] ?_
   obtain ⟨v0_3, hv5, h⟩ := Option.bind_eq_some_iff.1 h
   refine zG [] [] (hc_refine_isState s step.2.2 hv5) [(14, .bool true), (18, .bool v0_3)] [] ?_
   refine zB [(4, .bool v0_3)] [] ?_
   refine AW.ret ?_
   obtain rfl := Option.some.inj h
   exact zR [] [] []
  ·refine zS 4 [(14, .bool false), (18, .cv (undef))] [] ?_
   refine zB [(4, .bool false)] [] ?_
   refine AW.ret ?_
   obtain rfl := Option.some.inj h
   exact zR [] [] []
 ·refine zS 5 [(2, .bp 2 0), (3, .bp 3 0), (14, .bool false)] [(2, .box 24 [.int .i64 s.1, .sl Y0 s.2]), (3, .box 66 [.int .i64 step.1, .int .i64 step.2.1, .int .i64 step.2.2])] ?_
  refine zS 4 [(14, .bool false), (18, .cv (undef))] [] ?_
  refine zB [(4, .bool false)] [] ?_
  refine AW.ret ?_
  obtain rfl := Option.some.inj h
  exact zR [] [] []

theorem hc_slices_Index (s : List (Int × Int × Int)) (v0 : Int × Int × Int) {r : Int} (h : slices_Index s v0 = some r) : HC Try.prog 105 [] [.sl Y0 s, .agg [.int .i64 v0.1, .int .i64 v0.2.1, .int .i64 v0.2.2]] [] (.int .i64 r) := by
 unfold slices_Index at h
 refine zH Try.func105 [.tmp 4] 19 ?_
 refine zo ?_
 refine zB [(0, .sl Y0 s), (3, .bp 3 0)] [(3, .box 66 [.int .i64 v0.1, .int .i64 v0.2.1, .int .i64 v0.2.2])] ?_
 refine AW.have1 (fun _ : Unit => slices_Index_k1 = some r) (fun _ => ⟨fr [], hpGet [], gt⟩) (fun _ h => ?_) (fun hk_slices_Index_k1 => ?_)
 ·as_aux_lemma =>
   unfold slices_Index_k1 at h
   refine zo ?_
   refine zB [(4, .int .i64 (-1))] [] ?_
   refine AW.ret ?_
   obtain rfl := Option.some.inj h
   exact zR [] [] []
 ·refine AW.seq ?_
  refine zo ?_
  refine zB [(0, .sl Y0 s), (3, .bp 3 0), (7, .int .i64 (s.length : Int)), (8, .int .i64 0)] [(3, .box 66 [.int .i64 v0.1, .int .i64 v0.2.1, .int .i64 v0.2.2])] ?_
  refine AW.block ?_
  obtain ⟨rv5, hw1, ho2⟩ := Option.bind_eq_some_iff.1 h
  refine AW.loopO (slices_Index_b1 s v0) (fun st1 => ⟨fr [(0, .sl Y0 s), (3, .bp 3 0), (7, .int .i64 (s.length : Int)), (8, .int .i64 st1)], hpGet [(3, .box 66 [.int .i64 v0.1, .int .i64 v0.2.1, .int .i64 v0.2.2])], gt⟩) 0 hw1 (zL [] [] []) ?_
  as_aux_lemma =>
   intro st1 x4 h hd3
   unfold slices_Index_b1 at h
   refine zo ?_
   refine zB [(0, .sl Y0 s), (3, .bp 3 0), (7, .int .i64 (s.length : Int)), (8, .int .i64 st1), (9, .bool (decide (st1 < (s.length : Int))))] [(3, .box 66 [.int .i64 v0.1, .int .i64 v0.2.1, .int .i64 v0.2.2])] ?_
   refine AW.seq ?_
   refine zQ h (fun hb6 h => ?_) (fun hb6 h => ?_)
   ·refine zk ?_
    refine AW.seq ?_
    refine AW.block ?_
    refine zo ?_
    refine zB [(0, .sl Y0 s), (3, .bp 3 0), (5, .int .i64 st1), (7, .int .i64 (s.length : Int)), (8, .int .i64 st1)] [(3, .box 66 [.int .i64 v0.1, .int .i64 v0.2.1, .int .i64 v0.2.2])] ?_
    refine AW.seq ?_
    refine AW.drawTail tab_ok mixed_ok 5 [] [] (by decide) (by kernel_rfl) (by kernel_rfl) (by decide) ?_
    dsimp only [List.take_succ_cons, List.take_zero]
    obtain ⟨c8, h⟩ := ck_some.1 h
    obtain ⟨c9, h⟩ := ck_some.1 h
    refine adops_cut 5 (fun K' hK7 => ?_)
    try dsimp only [List.drop_succ_cons, List.drop_zero, List.take_succ_cons, List.take_zero]
    simp only [go_sem, hb6]
    repeat with_reducible refine zN ?_
    refine hK7 _ ?_
    refine adops_nil ?_
    refine zT [(0, .sl Y0 s), (3, .bp 3 0), (5, .int .i64 st1), (7, .int .i64 (s.length : Int)), (8, .int .i64 st1), (11, .agg [.int .i64 v0.1, .int .i64 v0.2.1, .int .i64 v0.2.2]), (15, .agg [.int .i64 (s.getD st1.toNat (0, 0, 0)).1, .int .i64 (s.getD st1.toNat (0, 0, 0)).2.1, .int .i64 (s.getD st1.toNat (0, 0, 0)).2.2])] [(3, .box 66 [.int .i64 v0.1, .int .i64 v0.2.1, .int .i64 v0.2.2])] gt ?_
    obtain ⟨c10, h⟩ := ck_some.1 h
    obtain ⟨c11, h⟩ := ck_some.1 h
    obtain ⟨c12, h⟩ := ck_some.1 h
    obtain ⟨c13, h⟩ := ck_some.1 h
    obtain ⟨c14, h⟩ := ck_some.1 h
    obtain ⟨c15, h⟩ := ck_some.1 h
    refine AO.aggEq (neg := false) eqty_66 (by decide) rfl rfl (lx := [.int .i64 v0.1, .int .i64 v0.2.1, .int .i64 v0.2.2]) (ly := [.int .i64 (s.getD st1.toNat (0, 0, 0)).1, .int .i64 (s.getD st1.toNat (0, 0, 0)).2.1, .int .i64 (s.getD st1.toNat (0, 0, 0)).2.2]) (by first | rfl | (simp only [go_sem, hb6]) <;> (with_reducible and_intros) <;> first | assumption | rfl | omega | (unfold maxLen; omega)) (by first | rfl | (simp only [go_sem, hb6]) <;> (with_reducible and_intros) <;> first | assumption | rfl | omega | (unfold maxLen; omega)) (by first | rfl | (simp only [go_sem, hb6]) <;> (with_reducible and_intros) <;> first | assumption | rfl | omega | (unfold maxLen; omega)) (by first | rfl | (simp only [go_sem, hb6]) <;> (with_reducible and_intros) <;> first | assumption | rfl | omega | (unfold maxLen; omega)) (by first | assumption | omega | (simp only [go_sem, hb6]) <;> (with_reducible and_intros) <;> first | assumption | rfl | omega | (unfold maxLen; omega)) (by first | assumption | omega | (simp only [go_sem, hb6]) <;> (with_reducible and_intros) <;> first | assumption | rfl | omega | (unfold maxLen; omega)) ?_
    refine zT [(0, .sl Y0 s), (3, .bp 3 0), (5, .int .i64 st1), (7, .int .i64 (s.length : Int)), (8, .int .i64 st1), (16, .bool (decide (v0 = (s.getD st1.toNat (0, 0, 0)))))] [(3, .box 66 [.int .i64 v0.1, .int .i64 v0.2.1, .int .i64 v0.2.2])] gt ?_
    refine zB [(0, .sl Y0 s), (3, .bp 3 0), (5, .int .i64 st1), (7, .int .i64 (s.length : Int)), (8, .int .i64 st1), (16, .bool (decide (v0 = (s.getD st1.toNat (0, 0, 0)))))] [(3, .box 66 [.int .i64 v0.1, .int .i64 v0.2.1, .int .i64 v0.2.2])] ?_
    refine zQ h (fun hb16 h => ?_) (fun hb16 h => ?_)
    ·refine zo ?_
     refine zB [(4, .int .i64 st1)] [] ?_
     refine AW.ret ?_
     refine ablock_r ?_
     refine athen_r ?_
     obtain rfl := Option.some.inj h
     rw [← hd3 _ rfl] at ho2
     have h := ho2
     try simp only at h
     refine athen_r ?_
     refine ablock_r ?_
     refine athen_r ?_
     obtain rfl := Option.some.inj h
     exact zR [] [] []
    ·refine zm ?_
     refine athen_n ?_
     refine AW.ops ?_
     obtain ⟨c17, h⟩ := ck_some.1 h
     refine zA [(0, .sl Y0 s), (3, .bp 3 0), (7, .int .i64 (s.length : Int)), (8, .int .i64 (st1 + 1))] [(3, .box 66 [.int .i64 v0.1, .int .i64 v0.2.1, .int .i64 v0.2.2])] ?_
     obtain rfl := Option.some.inj h
     exact ⟨_, rfl, zL [] [] []⟩
   ·refine AW.exit ?_
    refine athen_e ?_
    obtain rfl := Option.some.inj h
    rw [← hd3 _ rfl] at ho2
    have h := ho2
    try simp only at h
    refine athen_e ?_
    refine ablock_s ?_
    refine athen_n ?_
    exact AW.weaken (zL [] [] []) (hk_slices_Index_k1 () h)

theorem hc_slices_Contains (s : List (Int × Int × Int)) (v0 : Int × Int × Int) {r : Bool} (h : slices_Contains s v0 = some r) : HC Try.prog 66 [] [.sl Y0 s, .agg [.int .i64 v0.1, .int .i64 v0.2.1, .int .i64 v0.2.2]] [] (.bool r) := by
 unfold slices_Contains at h
 refine zH Try.func66 [.tmp 4] 9 ?_
 refine zo ?_
 refine zB [(0, .sl Y0 s), (3, .bp 3 0)] [(3, .box 66 [.int .i64 v0.1, .int .i64 v0.2.1, .int .i64 v0.2.2])] ?_
 refine zo ?_
 refine zS 2 [(5, .sl Y0 s), (6, .agg [.int .i64 v0.1, .int .i64 v0.2.1, .int .i64 v0.2.2])] [] ?_
 obtain ⟨v0_2, hv1, h⟩ := Option.bind_eq_some_iff.1 h
 refine zC [] [] (hc_slices_Index s v0 hv1) [(7, .int .i64 v0_2)] [] ?_
 refine zB [(4, .bool (decide (0 ≤ v0_2)))] [] ?_
 refine AW.ret ?_
 obtain rfl := Option.some.inj h
 exact zR [] [] []

theorem hc_refine_Valid (s : Int × (List (Int × Int × Int))) {r : Bool} (h : refine_Valid s = some r) : HC Try.prog 20 [] [.agg [.int .i64 s.1, .sl Y0 s.2]] [] (.bool r) := by
 unfold refine_Valid at h
 refine zH Try.func20 [.tmp 2] 40 ?_
 refine zo ?_
 refine zB [(1, .bp 1 0)] [(1, .box 24 [.int .i64 s.1, .sl Y0 s.2])] ?_
 refine AW.seq ?_
 refine zo ?_
 refine zS 4 [(1, .bp 1 0), (8, .bool (decide (s.1 < 1)))] [(1, .box 24 [.int .i64 s.1, .sl Y0 s.2])] ?_
 rcases zI h with ⟨hb1, h⟩ | ⟨hb1, h⟩
 ·refine zS 5 [(1, .bp 1 0), (13, .bool true)] [(1, .box 24 [.int .i64 s.1, .sl Y0 s.2])] ?_
  refine zS 4 [(1, .bp 1 0), (13, .bool true), (17, .cv (undef))] [(1, .box 24 [.int .i64 s.1, .sl Y0 s.2])] ?_
  refine zB [(1, .bp 1 0), (18, .bool true)] [(1, .box 24 [.int .i64 s.1, .sl Y0 s.2])] ?_
  refine AW.cond (b := true) rfl (fun _ => ?_) (fun hb2 => by cases hb2)
  refine zo ?_
  refine zB [(2, .bool false)] [] ?_
  refine zr ?_
  obtain rfl := Option.some.inj h
  exact zR [] [] []
 ·refine zS 5 [(1, .bp 1 0), (13, .bool (decide (6 < s.1)))] [(1, .box 24 [.int .i64 s.1, .sl Y0 s.2])] ?_
  rcases zI h with ⟨hb3, h⟩ | ⟨hb3, h⟩
  ·refine zS 4 [(1, .bp 1 0), (13, .bool true), (17, .cv (undef))] [(1, .box 24 [.int .i64 s.1, .sl Y0 s.2])] ?_
   refine zB [(1, .bp 1 0), (18, .bool true)] [(1, .box 24 [.int .i64 s.1, .sl Y0 s.2])] ?_
   refine AW.cond (b := true) rfl (fun _ => ?_) (fun hb4 => by cases hb4)
   refine zo ?_
   refine zB [(2, .bool false)] [] ?_
   refine zr ?_
   obtain rfl := Option.some.inj h
   exact zR [] [] []
  ·refine zB [(1, .bp 1 0), (18, .bool (decide (24 < (s.2.length : Int))))] [(1, .box 24 [.int .i64 s.1, .sl Y0 s.2])] ?_
   refine zQ h (fun hb5 h => ?_) (fun hb5 h => ?_)
   ·refine zo ?_
    refine zB [(2, .bool false)] [] ?_
    refine zr ?_
    obtain rfl := Option.some.inj h
    exact zR [] [] []
   ·refine zk ?_
    refine AW.have1 (fun _ : Unit => refine_Valid_k1 = some r) (fun _ => ⟨fr [], hpGet [], gt⟩) (fun _ h => ?_) (fun hk_refine_Valid_k1 => ?_)
    ·as_aux_lemma =>
      unfold refine_Valid_k1 at h
      refine zo ?_
      refine zB [(2, .bool true)] [] ?_
      refine AW.ret ?_
      obtain rfl := Option.some.inj h
      exact zR [] [] []
    ·refine AW.seq ?_
     refine zo ?_
     refine zB [(1, .bp 1 0), (20, .sl Y0 s.2), (21, .int .i64 (s.2.length : Int)), (22, .int .i64 0)] [(1, .box 24 [.int .i64 s.1, .sl Y0 s.2])] ?_
     refine AW.block ?_
     obtain ⟨rv10, hw6, ho7⟩ := Option.bind_eq_some_iff.1 h
     refine AW.loopO (refine_Valid_b1 s) (fun st1 => ⟨fr [(1, .bp 1 0), (20, .sl Y0 s.2), (21, .int .i64 (s.2.length : Int)), (22, .int .i64 st1)], hpGet [(1, .box 24 [.int .i64 s.1, .sl Y0 s.2])], gt⟩) 0 hw6 (zL [] [] []) ?_
     as_aux_lemma =>
      intro st1 x9 h hd8
      unfold refine_Valid_b1 at h
      refine zo ?_
      refine zB [(1, .bp 1 0), (20, .sl Y0 s.2), (21, .int .i64 (s.2.length : Int)), (22, .int .i64 st1), (23, .bool (decide (st1 < (s.2.length : Int))))] [(1, .box 24 [.int .i64 s.1, .sl Y0 s.2])] ?_
      refine AW.seq ?_
      refine zQ h (fun hb11 h => ?_) (fun hb11 h => ?_)
      ·refine zk ?_
       refine AW.seq ?_
       refine AW.block ?_
       refine zo ?_
       obtain ⟨c12, h⟩ := ck_some.1 h
       obtain ⟨c13, h⟩ := ck_some.1 h
       refine zS 5 [(1, .bp 1 0), (3, .int .i64 st1), (4, .bp 4 0), (20, .sl Y0 s.2), (21, .int .i64 (s.2.length : Int)), (22, .int .i64 st1), (26, .agg [.int .i64 (s.2.getD st1.toNat (0, 0, 0)).1, .int .i64 (s.2.getD st1.toNat (0, 0, 0)).2.1, .int .i64 (s.2.getD st1.toNat (0, 0, 0)).2.2])] [(1, .box 24 [.int .i64 s.1, .sl Y0 s.2]), (4, .box 66 [.int .i64 0, .int .i64 0, .int .i64 0])] ?_
       refine zB [(1, .bp 1 0), (3, .int .i64 st1), (4, .bp 4 0), (20, .sl Y0 s.2), (21, .int .i64 (s.2.length : Int)), (22, .int .i64 st1)] [(1, .box 24 [.int .i64 s.1, .sl Y0 s.2]), (4, .box 66 [.int .i64 (s.2.getD st1.toNat (0, 0, 0)).1, .int .i64 (s.2.getD st1.toNat (0, 0, 0)).2.1, .int .i64 (s.2.getD st1.toNat (0, 0, 0)).2.2])] ?_
       refine AW.seq ?_
       refine AW.draw tab_ok mixed_ok [] [] (by decide) (lex_fast (by kernel_rfl)) ?_
       as_aux_lemma =>
        refine adops_cut 2 (fun K' hK14 => ?_)
        try dsimp only [List.drop_succ_cons, List.drop_zero, List.take_succ_cons, List.take_zero]
        simp only [go_sem, hb1, hb3, hb5, hb11]
        repeat with_reducible refine zN ?_
        refine hK14 _ ?_
        as_aux_lemma =>
         obtain ⟨v0, hv15, h⟩ := Option.bind_eq_some_iff.1 h
         refine adops.call (by first | trivial | rfl) rfl rfl rfl (fun _ h => h) [] [] (hc_refine_isStep s (s.2.getD st1.toNat (0, 0, 0)) hv15) rfl (by (simp only [go_sem, hb1, hb3, hb5, hb11]) <;> (with_reducible and_intros) <;> first | assumption | rfl | omega | (unfold maxLen; omega)) (by (simp only [go_sem, hb1, hb3, hb5, hb11]) <;> (with_reducible and_intros) <;> first | assumption | rfl | omega | (unfold maxLen; omega)) rfl ?_
         refine adops_cut 2 (fun K' hK16 => ?_)
         try dsimp only [List.drop_succ_cons, List.drop_zero, List.take_succ_cons, List.take_zero]
         simp only [go_sem, hb1, hb3, hb5, hb11]
         repeat with_reducible refine zN ?_
         refine hK16 _ ?_
         as_aux_lemma =>
          rcases zI h with ⟨hb17, h⟩ | ⟨hb17, h⟩
          ·simp only [hb17]
           as_aux_lemma =>
            refine adops_cut 4 (fun K' hK18 => ?_)
            try dsimp only [List.drop_succ_cons, List.drop_zero, List.take_succ_cons, List.take_zero]
            simp only [go_sem, hb1, hb3, hb5, hb11, hb17]
            repeat with_reducible refine zN ?_
            refine hK18 _ ?_
            as_aux_lemma =>
             refine adops_cut 3 (fun K' hK19 => ?_)
             try dsimp only [List.drop_succ_cons, List.drop_zero, List.take_succ_cons, List.take_zero]
             simp only [go_sem, hb1, hb3, hb5, hb11, hb17]
             repeat with_reducible refine zN ?_
             refine hK19 _ ?_
             refine adops_nil ?_
             refine athen_n ?_
             refine zV [(1, .bp 1 0), (20, .sl Y0 s.2), (21, .int .i64 (s.2.length : Int)), (22, .int .i64 st1), (38, .bool true)] [(1, .box 24 [.int .i64 s.1, .sl Y0 s.2])] gt ?_
             as_aux_lemma =>
              refine AW.cond (b := true) rfl (fun _ => ?_) (fun hb20 => by cases hb20)
              refine zo ?_
              refine zB [(2, .bool false)] [] ?_
              refine AW.ret ?_
              refine ablock_r ?_
              refine athen_r ?_
              obtain rfl := Option.some.inj h
              rw [← hd8 _ rfl] at ho7
              have h := ho7
              try simp only at h
              refine athen_r ?_
              refine ablock_r ?_
              refine athen_r ?_
              obtain rfl := Option.some.inj h
              exact zR [] [] []
          ·simp only [hb17]
           as_aux_lemma =>
            obtain ⟨c22, h⟩ := ck_some.1 h
            obtain ⟨c23, h⟩ := ck_some.1 h
            refine adops_cut 5 (fun K' hK21 => ?_)
            try dsimp only [List.drop_succ_cons, List.drop_zero, List.take_succ_cons, List.take_zero]
            simp only [go_sem, hb1, hb3, hb5, hb11, hb17]
            repeat with_reducible refine zN ?_
            refine hK21 _ ?_
            as_aux_lemma =>
             obtain ⟨v0_2, hv24, h⟩ := Option.bind_eq_some_iff.1 h
             refine adops.call (by first | trivial | rfl) rfl rfl rfl (fun _ h => ⟨fun _ => h, fun hn => absurd rfl hn⟩) [] [] (hc_slices_Contains (s.2.take st1.toNat) (s.2.getD st1.toNat (0, 0, 0)) hv24) rfl (by (simp only [go_sem, hb1, hb3, hb5, hb11, hb17]) <;> (with_reducible and_intros) <;> first | assumption | rfl | omega | (unfold maxLen; omega)) (by (simp only [go_sem, hb1, hb3, hb5, hb11, hb17]) <;> (with_reducible and_intros) <;> first | assumption | rfl | omega | (unfold maxLen; omega)) rfl ?_
             refine adops_cut 1 (fun K' hK25 => ?_)
             try dsimp only [List.drop_succ_cons, List.drop_zero, List.take_succ_cons, List.take_zero]
             simp only [go_sem, hb1, hb3, hb5, hb11, hb17]
             repeat with_reducible refine zN ?_
             refine hK25 _ ?_
             refine adops_nil ?_
             refine athen_n ?_
             refine zV [(1, .bp 1 0), (20, .sl Y0 s.2), (21, .int .i64 (s.2.length : Int)), (22, .int .i64 st1), (38, .bool v0_2)] [(1, .box 24 [.int .i64 s.1, .sl Y0 s.2])] gt ?_
             as_aux_lemma =>
              refine zQ h (fun hb26 h => ?_) (fun hb26 h => ?_)
              ·refine zo ?_
               refine zB [(2, .bool false)] [] ?_
               refine AW.ret ?_
               refine ablock_r ?_
               refine athen_r ?_
               obtain rfl := Option.some.inj h
               rw [← hd8 _ rfl] at ho7
               have h := ho7
               try simp only at h
               refine athen_r ?_
               refine ablock_r ?_
               refine athen_r ?_
               obtain rfl := Option.some.inj h
               exact zR [] [] []
              ·refine zm ?_
               refine athen_n ?_
               refine AW.ops ?_
               obtain ⟨c27, h⟩ := ck_some.1 h
               refine zA [(1, .bp 1 0), (20, .sl Y0 s.2), (21, .int .i64 (s.2.length : Int)), (22, .int .i64 (st1 + 1))] [(1, .box 24 [.int .i64 s.1, .sl Y0 s.2])] ?_
               obtain rfl := Option.some.inj h
               exact ⟨_, rfl, zL [] [] []⟩
      ·refine AW.exit ?_
       refine athen_e ?_
       obtain rfl := Option.some.inj h
       rw [← hd8 _ rfl] at ho7
       have h := ho7
       try simp only at h
       refine athen_e ?_
       refine ablock_s ?_
       refine athen_n ?_
       exact AW.weaken (zL [] [] []) (hk_refine_Valid_k1 () h)

theorem hc_refine_set_has (s : Int) (state : Int) {r : Unit} (h : refine_set_has s state = some r) : HC Try.prog 91 [] [.int .u8 s, .int .i64 state] [] (.bool (decide ((iand .u8 (ishr .u8 s state) 1) = 1))) := by
 unfold refine_set_has at h
 refine zH Try.func91 [.tmp 4] 10 ?_
 refine zo ?_
 refine zB [(0, .int .u8 s), (1, .int .i64 state)] [] ?_
 refine zo ?_
 obtain ⟨c1, h⟩ := ck_some.1 h
 refine zS 5 [(9, .bool (decide ((iand .u8 (ishr .u8 s state) 1) = 1)))] [] ?_
 refine zB [(4, .bool (decide ((iand .u8 (ishr .u8 s state) 1) = 1)))] [] ?_
 refine AW.ret ?_
 obtain rfl := Option.some.inj h
 exact zR [] [] []

theorem hc_refine_frame_led_1F (slf : Int → Int → ((Int × (List (Int × Int × Int))) × (El T69)) → Option Int) (hc_slf : ∀ (state : Int) (a1 : Int) (a2 : (Int × (List (Int × Int × Int))) × (El T69)) {r : Int}, slf state a1 a2 = some r → HC Try.prog 126 [(1000, .box 67 [.int .u8 a1]), (1001, .box 71 (.int .i64 a2.1.1 :: (.sl Y0 a2.1.2 :: (cellsX T69 a2.2)))), (1002, .box 75 [.fn (.func 103) [] []]), (1003, .box 144 [.fn (.func 126) [] [.bp 1000 0, .bp 1001 0, .bp 1002 0, .bp 1003 0]])] [.int .i64 state, .bp 1000 0, .bp 1001 0, .bp 1002 0, .bp 1003 0] [(1000, .box 67 [.int .u8 r]), (1001, .box 71 (.int .i64 a2.1.1 :: (.sl Y0 a2.1.2 :: (cellsX T69 a2.2)))), (1002, .box 75 [.fn (.func 103) [] []]), (1003, .box 144 [.fn (.func 126) [] [.bp 1000 0, .bp 1001 0, .bp 1002 0, .bp 1003 0]])] (.tup [])) (state : Int) (a1 : Int) (a2 : (Int × (List (Int × Int × Int))) × (El T69)) {r : Int} (h : refine_frame_led_1F slf state a1 a2 = some r) : HC Try.prog 126 [(1000, .box 67 [.int .u8 a1]), (1001, .box 71 (.int .i64 a2.1.1 :: (.sl Y0 a2.1.2 :: (cellsX T69 a2.2)))), (1002, .box 75 [.fn (.func 103) [] []]), (1003, .box 144 [.fn (.func 126) [] [.bp 1000 0, .bp 1001 0, .bp 1002 0, .bp 1003 0]])] [.int .i64 state, .bp 1000 0, .bp 1001 0, .bp 1002 0, .bp 1003 0] [(1000, .box 67 [.int .u8 r]), (1001, .box 71 (.int .i64 a2.1.1 :: (.sl Y0 a2.1.2 :: (cellsX T69 a2.2)))), (1002, .box 75 [.fn (.func 103) [] []]), (1003, .box 144 [.fn (.func 126) [] [.bp 1000 0, .bp 1001 0, .bp 1002 0, .bp 1003 0]])] (.tup []) := by
 unfold refine_frame_led_1F at h
 refine zH Try.func126 [] 38 ?_
 refine AW.seq ?_
 refine zo ?_
 refine zS 2 [(0, .int .i64 state), (1, .bp 1000 0), (2, .bp 1001 0), (3, .bp 1002 0), (4, .bp 1003 0), (8, .int .u8 a1), (9, .int .i64 state)] [(1000, .box 67 [.int .u8 a1]), (1001, .box 71 (.int .i64 a2.1.1 :: (.sl Y0 a2.1.2 :: (cellsX T69 a2.2)))), (1002, .box 75 [.fn (.func 103) [] []]), (1003, .box 144 [.fn (.func 126) [] [.bp 1000 0, .bp 1001 0, .bp 1002 0, .bp 1003 0]])] ?_
 obtain ⟨v0, hv1, h⟩ := Option.bind_eq_some_iff.1 h
 refine zC [] [] (hc_refine_set_has a1 state hv1) [(0, .int .i64 state), (1, .bp 1000 0), (2, .bp 1001 0), (3, .bp 1002 0), (4, .bp 1003 0), (10, .bool (decide ((iand .u8 (ishr .u8 a1 state) 1) = 1)))] [(1000, .box 67 [.int .u8 a1]), (1001, .box 71 (.int .i64 a2.1.1 :: (.sl Y0 a2.1.2 :: (cellsX T69 a2.2)))), (1002, .box 75 [.fn (.func 103) [] []]), (1003, .box 144 [.fn (.func 126) [] [.bp 1000 0, .bp 1001 0, .bp 1002 0, .bp 1003 0]])] ?_
 refine zB [(0, .int .i64 state), (1, .bp 1000 0), (2, .bp 1001 0), (3, .bp 1002 0), (4, .bp 1003 0), (10, .bool (decide ((iand .u8 (ishr .u8 a1 state) 1) = 1)))] [(1000, .box 67 [.int .u8 a1]), (1001, .box 71 (.int .i64 a2.1.1 :: (.sl Y0 a2.1.2 :: (cellsX T69 a2.2)))), (1002, .box 75 [.fn (.func 103) [] []]), (1003, .box 144 [.fn (.func 126) [] [.bp 1000 0, .bp 1001 0, .bp 1002 0, .bp 1003 0]])] ?_
 refine zQ h (fun hb2 h => ?_) (fun hb2 h => ?_)
 ·refine zr ?_
  obtain rfl := Option.some.inj h
  exact zR [] [] []
 ·refine zk ?_
  refine AW.seq ?_
  refine AW.draw tab_ok mixed_ok [(4, [1000])] [] (by decide) (by kernel_rfl) ?_
  as_aux_lemma =>
   obtain ⟨c4, h⟩ := ck_some.1 h
   refine adops_cut 5 (fun K' hK3 => ?_)
   try dsimp only [List.drop_succ_cons, List.drop_zero, List.take_succ_cons, List.take_zero]
   simp only [go_sem, hb2]
   repeat with_reducible refine zN ?_
   refine hK3 _ ?_
   refine adops_nil ?_
   refine athen_n ?_
   refine zV [(0, .int .i64 state), (2, .bp 1001 0), (3, .bp 1002 0), (4, .bp 1003 0)] [(1000, .box 67 [.int .u8 (ior .u8 a1 (ishl .u8 1 state))]), (1001, .box 71 (.int .i64 a2.1.1 :: (.sl Y0 a2.1.2 :: (cellsX T69 a2.2)))), (1002, .box 75 [.fn (.func 103) [] []]), (1003, .box 144 [.fn (.func 126) [] [.bp 1000 0, .bp 1001 0, .bp 1002 0, .bp 1003 0]])] gt ?_
   as_aux_lemma =>
    refine zo ?_
    refine zB [(0, .int .i64 state), (3, .bp 1002 0), (4, .bp 1003 0), (17, .sl Y0 a2.1.2), (18, .int .i64 (a2.1.2.length : Int)), (19, .int .i64 0)] [(1000, .box 67 [.int .u8 (ior .u8 a1 (ishl .u8 1 state))]), (1001, .box 71 (.int .i64 a2.1.1 :: (.sl Y0 a2.1.2 :: (cellsX T69 a2.2)))), (1002, .box 75 [.fn (.func 103) [] []]), (1003, .box 144 [.fn (.func 126) [] [.bp 1000 0, .bp 1001 0, .bp 1002 0, .bp 1003 0]])] ?_
    refine AW.block ?_
    obtain ⟨rv9, hw5, ho6⟩ := Option.bind_eq_some_iff.1 h
    refine AW.loopO (refine_frame_led_1_b1 slf state a2) (fun st1 => ⟨fr [(0, .int .i64 state), (3, .bp 1002 0), (4, .bp 1003 0), (17, .sl Y0 a2.1.2), (18, .int .i64 (a2.1.2.length : Int)), (19, .int .i64 st1.2)], hpGet [(1000, .box 67 [.int .u8 st1.1]), (1001, .box 71 (.int .i64 a2.1.1 :: (.sl Y0 a2.1.2 :: (cellsX T69 a2.2)))), (1002, .box 75 [.fn (.func 103) [] []]), (1003, .box 144 [.fn (.func 126) [] [.bp 1000 0, .bp 1001 0, .bp 1002 0, .bp 1003 0]])], gt⟩) ((ior .u8 a1 (ishl .u8 1 state)), 0) hw5 (zL [] [] []) ?_
    as_aux_lemma =>
     intro st1 x8 h hd7
     unfold refine_frame_led_1_b1 at h
     refine zo ?_
     refine zB [(0, .int .i64 state), (3, .bp 1002 0), (4, .bp 1003 0), (17, .sl Y0 a2.1.2), (18, .int .i64 (a2.1.2.length : Int)), (19, .int .i64 st1.2), (20, .bool (decide (st1.2 < (a2.1.2.length : Int))))] [(1000, .box 67 [.int .u8 st1.1]), (1001, .box 71 (.int .i64 a2.1.1 :: (.sl Y0 a2.1.2 :: (cellsX T69 a2.2)))), (1002, .box 75 [.fn (.func 103) [] []]), (1003, .box 144 [.fn (.func 126) [] [.bp 1000 0, .bp 1001 0, .bp 1002 0, .bp 1003 0]])] ?_
     refine AW.seq ?_
     refine zQ h (fun hb10 h => ?_) (fun hb10 h => ?_)
     ·refine zk ?_
      refine AW.seq ?_
      refine AW.block ?_
      refine zo ?_
      obtain ⟨c11, h⟩ := ck_some.1 h
      obtain ⟨c12, h⟩ := ck_some.1 h
      refine zB [(0, .int .i64 state), (3, .bp 1002 0), (4, .bp 1003 0), (7, .bp 7 0), (17, .sl Y0 a2.1.2), (18, .int .i64 (a2.1.2.length : Int)), (19, .int .i64 st1.2)] [(7, .box 66 [.int .i64 (a2.1.2.getD st1.2.toNat (0, 0, 0)).1, .int .i64 (a2.1.2.getD st1.2.toNat (0, 0, 0)).2.1, .int .i64 (a2.1.2.getD st1.2.toNat (0, 0, 0)).2.2]), (1000, .box 67 [.int .u8 st1.1]), (1001, .box 71 (.int .i64 a2.1.1 :: (.sl Y0 a2.1.2 :: (cellsX T69 a2.2)))), (1002, .box 75 [.fn (.func 103) [] []]), (1003, .box 144 [.fn (.func 126) [] [.bp 1000 0, .bp 1001 0, .bp 1002 0, .bp 1003 0]])] ?_
      refine zo ?_
      refine zS 5 [(0, .int .i64 state), (3, .bp 1002 0), (4, .bp 1003 0), (7, .bp 7 0), (17, .sl Y0 a2.1.2), (18, .int .i64 (a2.1.2.length : Int)), (19, .int .i64 st1.2), (27, .bool (decide ((a2.1.2.getD st1.2.toNat (0, 0, 0)).1 = state)))] [(7, .box 66 [.int .i64 (a2.1.2.getD st1.2.toNat (0, 0, 0)).1, .int .i64 (a2.1.2.getD st1.2.toNat (0, 0, 0)).2.1, .int .i64 (a2.1.2.getD st1.2.toNat (0, 0, 0)).2.2]), (1000, .box 67 [.int .u8 st1.1]), (1001, .box 71 (.int .i64 a2.1.1 :: (.sl Y0 a2.1.2 :: (cellsX T69 a2.2)))), (1002, .box 75 [.fn (.func 103) [] []]), (1003, .box 144 [.fn (.func 126) [] [.bp 1000 0, .bp 1001 0, .bp 1002 0, .bp 1003 0]])] ?_
      rcases zI h with ⟨hb13, h⟩ | ⟨hb13, h⟩
      ·refine zS 3 [(0, .int .i64 state), (3, .bp 1002 0), (4, .bp 1003 0), (7, .bp 7 0), (17, .sl Y0 a2.1.2), (18, .int .i64 (a2.1.2.length : Int)), (19, .int .i64 st1.2), (27, .bool true), (28, .fn (.func 103) [] []), (30, .int .i64 (a2.1.2.getD st1.2.toNat (0, 0, 0)).2.1)] [(7, .box 66 [.int .i64 (a2.1.2.getD st1.2.toNat (0, 0, 0)).1, .int .i64 (a2.1.2.getD st1.2.toNat (0, 0, 0)).2.1, .int .i64 (a2.1.2.getD st1.2.toNat (0, 0, 0)).2.2]), (1000, .box 67 [.int .u8 st1.1]), (1001, .box 71 (.int .i64 a2.1.1 :: (.sl Y0 a2.1.2 :: (cellsX T69 a2.2)))), (1002, .box 75 [.fn (.func 103) [] []]), (1003, .box 144 [.fn (.func 126) [] [.bp 1000 0, .bp 1001 0, .bp 1002 0, .bp 1003 0]])] ?_
       obtain ⟨v0_2, hv14, h⟩ := Option.bind_eq_some_iff.1 h
       refine zG [] [] (hc_refine_isHidden (a2.1.2.getD st1.2.toNat (0, 0, 0)).2.1 hv14) [(0, .int .i64 state), (3, .bp 1002 0), (4, .bp 1003 0), (7, .bp 7 0), (17, .sl Y0 a2.1.2), (18, .int .i64 (a2.1.2.length : Int)), (19, .int .i64 st1.2), (27, .bool true), (31, .bool (decide ((a2.1.2.getD st1.2.toNat (0, 0, 0)).2.1 = 0)))] [(7, .box 66 [.int .i64 (a2.1.2.getD st1.2.toNat (0, 0, 0)).1, .int .i64 (a2.1.2.getD st1.2.toNat (0, 0, 0)).2.1, .int .i64 (a2.1.2.getD st1.2.toNat (0, 0, 0)).2.2]), (1000, .box 67 [.int .u8 st1.1]), (1001, .box 71 (.int .i64 a2.1.1 :: (.sl Y0 a2.1.2 :: (cellsX T69 a2.2)))), (1002, .box 75 [.fn (.func 103) [] []]), (1003, .box 144 [.fn (.func 126) [] [.bp 1000 0, .bp 1001 0, .bp 1002 0, .bp 1003 0]])] ?_
       refine zB [(0, .int .i64 state), (3, .bp 1002 0), (4, .bp 1003 0), (7, .bp 7 0), (17, .sl Y0 a2.1.2), (18, .int .i64 (a2.1.2.length : Int)), (19, .int .i64 st1.2), (32, .bool (decide ((a2.1.2.getD st1.2.toNat (0, 0, 0)).2.1 = 0)))] [(7, .box 66 [.int .i64 (a2.1.2.getD st1.2.toNat (0, 0, 0)).1, .int .i64 (a2.1.2.getD st1.2.toNat (0, 0, 0)).2.1, .int .i64 (a2.1.2.getD st1.2.toNat (0, 0, 0)).2.2]), (1000, .box 67 [.int .u8 st1.1]), (1001, .box 71 (.int .i64 a2.1.1 :: (.sl Y0 a2.1.2 :: (cellsX T69 a2.2)))), (1002, .box 75 [.fn (.func 103) [] []]), (1003, .box 144 [.fn (.func 126) [] [.bp 1000 0, .bp 1001 0, .bp 1002 0, .bp 1003 0]])] ?_
       refine zQ h (fun hb15 h => ?_) (fun hb15 h => ?_)
       ·refine AW.ops ?_
        refine zS 3 [(0, .int .i64 state), (3, .bp 1002 0), (4, .bp 1003 0), (17, .sl Y0 a2.1.2), (18, .int .i64 (a2.1.2.length : Int)), (19, .int .i64 st1.2), (33, .fn (.func 126) [] [.bp 1000 0, .bp 1001 0, .bp 1002 0, .bp 1003 0]), (35, .int .i64 (a2.1.2.getD st1.2.toNat (0, 0, 0)).2.2)] [(1000, .box 67 [.int .u8 st1.1]), (1001, .box 71 (.int .i64 a2.1.1 :: (.sl Y0 a2.1.2 :: (cellsX T69 a2.2)))), (1002, .box 75 [.fn (.func 103) [] []]), (1003, .box 144 [.fn (.func 126) [] [.bp 1000 0, .bp 1001 0, .bp 1002 0, .bp 1003 0]])] ?_
        obtain ⟨v0_3, hv16, h⟩ := Option.bind_eq_some_iff.1 h
        refine zC [] [(1000, 1000), (1001, 1001), (1002, 1002), (1003, 1003)] (hc_slf (a2.1.2.getD st1.2.toNat (0, 0, 0)).2.2 st1.1 a2 hv16) [(0, .int .i64 state), (3, .bp 1002 0), (4, .bp 1003 0), (17, .sl Y0 a2.1.2), (18, .int .i64 (a2.1.2.length : Int)), (19, .int .i64 st1.2)] [(1000, .box 67 [.int .u8 v0_3]), (1001, .box 71 (.int .i64 a2.1.1 :: (.sl Y0 a2.1.2 :: (cellsX T69 a2.2)))), (1002, .box 75 [.fn (.func 103) [] []]), (1003, .box 144 [.fn (.func 126) [] [.bp 1000 0, .bp 1001 0, .bp 1002 0, .bp 1003 0]])] ?_
        refine zA [(0, .int .i64 state), (3, .bp 1002 0), (4, .bp 1003 0), (17, .sl Y0 a2.1.2), (18, .int .i64 (a2.1.2.length : Int)), (19, .int .i64 st1.2)] [(1000, .box 67 [.int .u8 v0_3]), (1001, .box 71 (.int .i64 a2.1.1 :: (.sl Y0 a2.1.2 :: (cellsX T69 a2.2)))), (1002, .box 75 [.fn (.func 103) [] []]), (1003, .box 144 [.fn (.func 126) [] [.bp 1000 0, .bp 1001 0, .bp 1002 0, .bp 1003 0]])] ?_
        refine ablock_n ?_
        refine athen_n ?_
        refine AW.ops ?_
        obtain ⟨c17, h⟩ := ck_some.1 h
        refine zA [(0, .int .i64 state), (3, .bp 1002 0), (4, .bp 1003 0), (17, .sl Y0 a2.1.2), (18, .int .i64 (a2.1.2.length : Int)), (19, .int .i64 (st1.2 + 1))] [(1000, .box 67 [.int .u8 v0_3]), (1001, .box 71 (.int .i64 a2.1.1 :: (.sl Y0 a2.1.2 :: (cellsX T69 a2.2)))), (1002, .box 75 [.fn (.func 103) [] []]), (1003, .box 144 [.fn (.func 126) [] [.bp 1000 0, .bp 1001 0, .bp 1002 0, .bp 1003 0]])] ?_
        obtain rfl := Option.some.inj h
        exact ⟨_, rfl, zL [] [] []⟩
       ·refine zm ?_
        refine athen_n ?_
        refine AW.ops ?_
        obtain ⟨c18, h⟩ := ck_some.1 h
        refine zA [(0, .int .i64 state), (3, .bp 1002 0), (4, .bp 1003 0), (17, .sl Y0 a2.1.2), (18, .int .i64 (a2.1.2.length : Int)), (19, .int .i64 (st1.2 + 1))] [(1000, .box 67 [.int .u8 st1.1]), (1001, .box 71 (.int .i64 a2.1.1 :: (.sl Y0 a2.1.2 :: (cellsX T69 a2.2)))), (1002, .box 75 [.fn (.func 103) [] []]), (1003, .box 144 [.fn (.func 126) [] [.bp 1000 0, .bp 1001 0, .bp 1002 0, .bp 1003 0]])] ?_
        obtain rfl := Option.some.inj h
        exact ⟨_, rfl, zL [] [] []⟩
      ·refine zS 4 [(0, .int .i64 state), (3, .bp 1002 0), (4, .bp 1003 0), (7, .bp 7 0), (17, .sl Y0 a2.1.2), (18, .int .i64 (a2.1.2.length : Int)), (19, .int .i64 st1.2), (27, .bool false), (31, .cv (undef))] [(7, .box 66 [.int .i64 (a2.1.2.getD st1.2.toNat (0, 0, 0)).1, .int .i64 (a2.1.2.getD st1.2.toNat (0, 0, 0)).2.1, .int .i64 (a2.1.2.getD st1.2.toNat (0, 0, 0)).2.2]), (1000, .box 67 [.int .u8 st1.1]), (1001, .box 71 (.int .i64 a2.1.1 :: (.sl Y0 a2.1.2 :: (cellsX T69 a2.2)))), (1002, .box 75 [.fn (.func 103) [] []]), (1003, .box 144 [.fn (.func 126) [] [.bp 1000 0, .bp 1001 0, .bp 1002 0, .bp 1003 0]])] ?_
       refine zB [(0, .int .i64 state), (3, .bp 1002 0), (4, .bp 1003 0), (7, .bp 7 0), (17, .sl Y0 a2.1.2), (18, .int .i64 (a2.1.2.length : Int)), (19, .int .i64 st1.2), (32, .bool false)] [(7, .box 66 [.int .i64 (a2.1.2.getD st1.2.toNat (0, 0, 0)).1, .int .i64 (a2.1.2.getD st1.2.toNat (0, 0, 0)).2.1, .int .i64 (a2.1.2.getD st1.2.toNat (0, 0, 0)).2.2]), (1000, .box 67 [.int .u8 st1.1]), (1001, .box 71 (.int .i64 a2.1.1 :: (.sl Y0 a2.1.2 :: (cellsX T69 a2.2)))), (1002, .box 75 [.fn (.func 103) [] []]), (1003, .box 144 [.fn (.func 126) [] [.bp 1000 0, .bp 1001 0, .bp 1002 0, .bp 1003 0]])] ?_
       refine AW.cond (b := false) rfl (fun hb19 => by cases hb19) (fun _ => ?_)
       refine zm ?_
       refine athen_n ?_
       refine AW.ops ?_
       obtain ⟨c20, h⟩ := ck_some.1 h
       refine zA [(0, .int .i64 state), (3, .bp 1002 0), (4, .bp 1003 0), (17, .sl Y0 a2.1.2), (18, .int .i64 (a2.1.2.length : Int)), (19, .int .i64 (st1.2 + 1))] [(1000, .box 67 [.int .u8 st1.1]), (1001, .box 71 (.int .i64 a2.1.1 :: (.sl Y0 a2.1.2 :: (cellsX T69 a2.2)))), (1002, .box 75 [.fn (.func 103) [] []]), (1003, .box 144 [.fn (.func 126) [] [.bp 1000 0, .bp 1001 0, .bp 1002 0, .bp 1003 0]])] ?_
       obtain rfl := Option.some.inj h
       exact ⟨_, rfl, zL [] [] []⟩
     ·refine AW.exit ?_
      refine athen_e ?_
      obtain rfl := Option.some.inj h
      rw [← hd7 _ rfl] at ho6
      have h := ho6
      refine athen_e ?_
      refine ablock_s ?_
      obtain rfl := Option.some.inj h
      exact zR [] [] []

theorem hc_refine_frame_led_1 : ∀ (n : Nat) (state : Int) (a1 : Int) (a2 : (Int × (List (Int × Int × Int))) × (El T69)) {r : Int}, refine_frame_led_1 n state a1 a2 = some r → HC Try.prog 126 [(1000, .box 67 [.int .u8 a1]), (1001, .box 71 (.int .i64 a2.1.1 :: (.sl Y0 a2.1.2 :: (cellsX T69 a2.2)))), (1002, .box 75 [.fn (.func 103) [] []]), (1003, .box 144 [.fn (.func 126) [] [.bp 1000 0, .bp 1001 0, .bp 1002 0, .bp 1003 0]])] [.int .i64 state, .bp 1000 0, .bp 1001 0, .bp 1002 0, .bp 1003 0] [(1000, .box 67 [.int .u8 r]), (1001, .box 71 (.int .i64 a2.1.1 :: (.sl Y0 a2.1.2 :: (cellsX T69 a2.2)))), (1002, .box 75 [.fn (.func 103) [] []]), (1003, .box 144 [.fn (.func 126) [] [.bp 1000 0, .bp 1001 0, .bp 1002 0, .bp 1003 0]])] (.tup []) := by
 intro n
 induction n with
 | zero => intro state a1 a2 r h; cases h
 | succ n ih => intro state a1 a2 r h; exact hc_refine_frame_led_1F (refine_frame_led_1 n) ih state a1 a2 h

theorem hc_refine_frame_led (f : (Int × (List (Int × Int × Int))) × (El T69)) (from0 : Int) {r : Int} (h : refine_frame_led f from0 = some r) : HC Try.prog 102 [] [.agg (.int .i64 f.1.1 :: (.sl Y0 f.1.2 :: (cellsX T69 f.2))), .int .i64 from0, .fn (.func 103) [] []] [] (.int .u8 r) := by
 unfold refine_frame_led at h
 refine zH Try.func102 [.tmp 6] 14 ?_
 refine zo ?_
 refine zB [(1, .int .i64 from0), (3, .bp 3 0), (5, .bp 5 0)] [(3, .box 71 (.int .i64 f.1.1 :: (.sl Y0 f.1.2 :: (cellsX T69 f.2)))), (5, .box 75 [.fn (.func 103) [] []])] ?_
 refine zo ?_
 refine zB [(1, .int .i64 from0), (3, .bp 3 0), (5, .bp 5 0), (7, .bp 7 0)] [(3, .box 71 (.int .i64 f.1.1 :: (.sl Y0 f.1.2 :: (cellsX T69 f.2)))), (5, .box 75 [.fn (.func 103) [] []]), (7, .box 67 [.int .u8 0])] ?_
 refine zo ?_
 refine zB [(1, .int .i64 from0), (3, .bp 3 0), (5, .bp 5 0), (7, .bp 7 0), (8, .bp 8 0)] [(3, .box 71 (.int .i64 f.1.1 :: (.sl Y0 f.1.2 :: (cellsX T69 f.2)))), (5, .box 75 [.fn (.func 103) [] []]), (7, .box 67 [.int .u8 0]), (8, .box 144 [.cv (.nilFunc)])] ?_
 refine zo ?_
 refine zB [(1, .int .i64 from0), (7, .bp 7 0), (8, .bp 8 0)] [(3, .box 71 (.int .i64 f.1.1 :: (.sl Y0 f.1.2 :: (cellsX T69 f.2)))), (5, .box 75 [.fn (.func 103) [] []]), (7, .box 67 [.int .u8 0]), (8, .box 144 [.fn (.func 126) [] [.bp 7 0, .bp 3 0, .bp 5 0, .bp 8 0]])] ?_
 refine zo ?_
 refine zS 2 [(7, .bp 7 0), (10, .fn (.func 126) [] [.bp 7 0, .bp 3 0, .bp 5 0, .bp 8 0]), (11, .int .i64 from0)] [(3, .box 71 (.int .i64 f.1.1 :: (.sl Y0 f.1.2 :: (cellsX T69 f.2)))), (5, .box 75 [.fn (.func 103) [] []]), (7, .box 67 [.int .u8 0]), (8, .box 144 [.fn (.func 126) [] [.bp 7 0, .bp 3 0, .bp 5 0, .bp 8 0]])] ?_
 obtain ⟨v0, hv1, h⟩ := Option.bind_eq_some_iff.1 h
 refine zC [] [(1000, 7), (1001, 3), (1002, 5), (1003, 8)] (hc_refine_frame_led_1 fuel from0 0 f hv1) [(7, .bp 7 0)] [(7, .box 67 [.int .u8 v0])] ?_
 refine zB [(7, .bp 7 0)] [(7, .box 67 [.int .u8 v0])] ?_
 refine zo ?_
 refine zB [(6, .int .u8 v0)] [] ?_
 refine AW.ret ?_
 obtain rfl := Option.some.inj h
 exact zR [] [] []

end Go.Proofs.Ytifleoceebaooaa
