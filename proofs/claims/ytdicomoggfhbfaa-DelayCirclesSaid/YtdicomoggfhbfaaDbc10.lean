/-
  Made by wip/tool/dc.py out of the print of the program: contracts.
-/
import Derived.Test.YtdicomoggfhbfaaDlp
import Derived.Test.YtdicomoggfhbfaaShd
import Derived.Test.YtdicomoggfhbfaaDbc1
import Derived.Test.YtdicomoggfhbfaaDbc3
import Derived.Test.YtdicomoggfhbfaaDbc4
import Derived.Test.YtdicomoggfhbfaaDbc5
import Derived.Test.YtdicomoggfhbfaaDbc6
import Derived.Test.YtdicomoggfhbfaaDbc7
import Derived.Test.YtdicomoggfhbfaaDbc8
import Derived.Test.YtdicomoggfhbfaaDbc9
namespace Go.Proofs.Ytdicomoggfhbfaa
open Go.RowKit

set_option linter.unusedSimpArgs false
set_option linter.unusedVariables false
set_option linter.constructorNameAsVariable false

set_option maxRecDepth 100000
set_option maxHeartbeats 40000000

theorem hc_lineallaw09_in (l : List (Int × Int × Int)) (s : Int × Int × Int) {r : Bool} (h : lineallaw09_in l s = some r) : HC Try.prog 32 [] [.sl (.pair (.int .i64) (.pair (.int .i64) (.int .i64))) l, .agg [.int .i64 s.1, .int .i64 s.2.1, .int .i64 s.2.2]] [] (.bool r) := by
 unfold lineallaw09_in at h
 refine zH Try.func32 [.tmp 4] 17 ?_
 refine zo ?_
 refine zB [(0, .sl (.pair (.int .i64) (.pair (.int .i64) (.int .i64))) l), (3, .bp 3 0)] [(3, .box 35 [.int .i64 s.1, .int .i64 s.2.1, .int .i64 s.2.2])] ?_
 refine AW.have1 (fun _ : Unit => lineallaw09_in_k1 = some r) (fun _ => ⟨fr [], hpGet [], gt⟩) (fun _ h => ?_) (fun hk_lineallaw09_in_k1 => ?_)
 ·as_aux_lemma =>
   unfold lineallaw09_in_k1 at h
   refine zo ?_
   refine zB [(4, .bool false)] [] ?_
   refine AW.ret ?_
   obtain rfl := Option.some.inj h
   exact zR [] [] []
 ·refine AW.seq ?_
  refine zo ?_
  refine zB [(3, .bp 3 0), (7, .sl (.pair (.int .i64) (.pair (.int .i64) (.int .i64))) l), (8, .int .i64 (l.length : Int)), (9, .int .i64 0)] [(3, .box 35 [.int .i64 s.1, .int .i64 s.2.1, .int .i64 s.2.2])] ?_
  refine AW.block ?_
  obtain ⟨rv5, hw1, ho2⟩ := Option.bind_eq_some_iff.1 h
  refine AW.loopO (lineallaw09_in_b1 l s) (fun st1 => ⟨fr [(3, .bp 3 0), (7, .sl (.pair (.int .i64) (.pair (.int .i64) (.int .i64))) l), (8, .int .i64 (l.length : Int)), (9, .int .i64 st1)], hpGet [(3, .box 35 [.int .i64 s.1, .int .i64 s.2.1, .int .i64 s.2.2])], gt⟩) 0 hw1 (zL [] [] []) ?_
  as_aux_lemma =>
   intro st1 x4 h hd3
   unfold lineallaw09_in_b1 at h
   refine zo ?_
   refine zB [(3, .bp 3 0), (7, .sl (.pair (.int .i64) (.pair (.int .i64) (.int .i64))) l), (8, .int .i64 (l.length : Int)), (9, .int .i64 st1), (10, .bool (decide (st1 < (l.length : Int))))] [(3, .box 35 [.int .i64 s.1, .int .i64 s.2.1, .int .i64 s.2.2])] ?_
   refine AW.seq ?_
   refine zQ h (fun hb6 h => ?_) (fun hb6 h => ?_)
   ·refine zk ?_
    refine AW.seq ?_
    refine AW.block ?_
    refine zo ?_
    obtain ⟨c7, h⟩ := ck_some.1 h
    obtain ⟨c8, h⟩ := ck_some.1 h
    refine zB [(3, .bp 3 0), (6, .bp 6 0), (7, .sl (.pair (.int .i64) (.pair (.int .i64) (.int .i64))) l), (8, .int .i64 (l.length : Int)), (9, .int .i64 st1)] [(3, .box 35 [.int .i64 s.1, .int .i64 s.2.1, .int .i64 s.2.2]), (6, .box 35 [.int .i64 (l.getD st1.toNat (0, 0, 0)).1, .int .i64 (l.getD st1.toNat (0, 0, 0)).2.1, .int .i64 (l.getD st1.toNat (0, 0, 0)).2.2])] ?_
    refine zo ?_
    refine zS 2 [(3, .bp 3 0), (7, .sl (.pair (.int .i64) (.pair (.int .i64) (.int .i64))) l), (8, .int .i64 (l.length : Int)), (9, .int .i64 st1), (13, .agg [.int .i64 (l.getD st1.toNat (0, 0, 0)).1, .int .i64 (l.getD st1.toNat (0, 0, 0)).2.1, .int .i64 (l.getD st1.toNat (0, 0, 0)).2.2]), (14, .agg [.int .i64 s.1, .int .i64 s.2.1, .int .i64 s.2.2])] [(3, .box 35 [.int .i64 s.1, .int .i64 s.2.1, .int .i64 s.2.2])] ?_
    obtain ⟨c9, h⟩ := ck_some.1 h
    obtain ⟨c10, h⟩ := ck_some.1 h
    obtain ⟨c11, h⟩ := ck_some.1 h
    obtain ⟨c12, h⟩ := ck_some.1 h
    obtain ⟨c13, h⟩ := ck_some.1 h
    obtain ⟨c14, h⟩ := ck_some.1 h
    refine AO.aggEq (neg := false) eqty_35 (by decide) rfl rfl (lx := [.int .i64 (l.getD st1.toNat (0, 0, 0)).1, .int .i64 (l.getD st1.toNat (0, 0, 0)).2.1, .int .i64 (l.getD st1.toNat (0, 0, 0)).2.2]) (ly := [.int .i64 s.1, .int .i64 s.2.1, .int .i64 s.2.2]) (by first | rfl | (simp only [go_sem, hb6]) <;> (with_reducible and_intros) <;> first | assumption | rfl | omega | (unfold maxLen; omega)) (by first | rfl | (simp only [go_sem, hb6]) <;> (with_reducible and_intros) <;> first | assumption | rfl | omega | (unfold maxLen; omega)) (by first | rfl | (simp only [go_sem, hb6]) <;> (with_reducible and_intros) <;> first | assumption | rfl | omega | (unfold maxLen; omega)) (by first | rfl | (simp only [go_sem, hb6]) <;> (with_reducible and_intros) <;> first | assumption | rfl | omega | (unfold maxLen; omega)) (by first | assumption | omega | (simp only [go_sem, hb6]) <;> (with_reducible and_intros) <;> first | assumption | rfl | omega | (unfold maxLen; omega)) (by first | assumption | omega | (simp only [go_sem, hb6]) <;> (with_reducible and_intros) <;> first | assumption | rfl | omega | (unfold maxLen; omega)) ?_
    refine zT [(3, .bp 3 0), (7, .sl (.pair (.int .i64) (.pair (.int .i64) (.int .i64))) l), (8, .int .i64 (l.length : Int)), (9, .int .i64 st1), (15, .bool (decide ((l.getD st1.toNat (0, 0, 0)) = s)))] [(3, .box 35 [.int .i64 s.1, .int .i64 s.2.1, .int .i64 s.2.2])] gt ?_
    refine zB [(3, .bp 3 0), (7, .sl (.pair (.int .i64) (.pair (.int .i64) (.int .i64))) l), (8, .int .i64 (l.length : Int)), (9, .int .i64 st1), (15, .bool (decide ((l.getD st1.toNat (0, 0, 0)) = s)))] [(3, .box 35 [.int .i64 s.1, .int .i64 s.2.1, .int .i64 s.2.2])] ?_
    refine zQ h (fun hb15 h => ?_) (fun hb15 h => ?_)
    ·refine zo ?_
     refine zB [(4, .bool true)] [] ?_
     refine AW.ret ?_
     refine ablock_r ?_
     refine athen_r ?_
     obtain rfl := Option.some.inj h
     try rw [← hd3 _ rfl] at ho2
     have h := ho2
     try simp only at h
     refine athen_r ?_
     refine ablock_r ?_
     refine athen_r ?_
     obtain rfl := Option.some.inj h
     exact zR [] [] []
    ·refine zm ?_
     refine athen_n ?_
     refine AW.ops ?_
     obtain ⟨c16, h⟩ := ck_some.1 h
     refine zA [(3, .bp 3 0), (7, .sl (.pair (.int .i64) (.pair (.int .i64) (.int .i64))) l), (8, .int .i64 (l.length : Int)), (9, .int .i64 (st1 + 1))] [(3, .box 35 [.int .i64 s.1, .int .i64 s.2.1, .int .i64 s.2.2])] ?_
     obtain rfl := Option.some.inj h
     exact ⟨_, rfl, zL [] [] []⟩
   ·refine AW.exit ?_
    refine athen_e ?_
    obtain rfl := Option.some.inj h
    try rw [← hd3 _ rfl] at ho2
    have h := ho2
    try simp only at h
    refine athen_e ?_
    refine ablock_s ?_
    refine athen_n ?_
    exact AW.weaken (zL [] [] []) (hk_lineallaw09_in_k1 () h)

theorem hc_lineallaw09_DelayCircles (x0 : List (List (Int × Bool))) (circle : List (Int × Int × Int)) (pair : Int × Int × Int) {r : Bool} (h : lineallaw09_DelayCircles x0 circle pair = some r) : HC Try.prog 4 [] [.sl (.sl (.pair (.int .i64) .bool)) x0, .sl (.pair (.int .i64) (.pair (.int .i64) (.int .i64))) circle, .agg [.int .i64 pair.1, .int .i64 pair.2.1, .int .i64 pair.2.2]] [] (.bool r) := by
 unfold lineallaw09_DelayCircles at h
 refine zH Try.func4 [.tmp 6] 155 ?_
 refine zo ?_
 refine zB [(0, .sl (.sl (.pair (.int .i64) .bool)) x0), (1, .sl (.pair (.int .i64) (.pair (.int .i64) (.int .i64))) circle), (5, .bp 5 0)] [(5, .box 35 [.int .i64 pair.1, .int .i64 pair.2.1, .int .i64 pair.2.2])] ?_
 refine AW.seq ?_
 refine zo ?_
 refine zS 1 [(0, .sl (.sl (.pair (.int .i64) .bool)) x0), (1, .sl (.pair (.int .i64) (.pair (.int .i64) (.int .i64))) circle), (5, .bp 5 0), (18, .sl (.sl (.pair (.int .i64) .bool)) x0)] [(5, .box 35 [.int .i64 pair.1, .int .i64 pair.2.1, .int .i64 pair.2.2])] ?_
 obtain ⟨v0, hv1, h⟩ := Option.bind_eq_some_iff.1 h
 refine zC [] [] (hc_lineallaw09_Long x0 hv1) [(0, .sl (.sl (.pair (.int .i64) .bool)) x0), (1, .sl (.pair (.int .i64) (.pair (.int .i64) (.int .i64))) circle), (5, .bp 5 0), (19, .bool v0)] [(5, .box 35 [.int .i64 pair.1, .int .i64 pair.2.1, .int .i64 pair.2.2])] ?_
 refine zS 1 [(0, .sl (.sl (.pair (.int .i64) .bool)) x0), (1, .sl (.pair (.int .i64) (.pair (.int .i64) (.int .i64))) circle), (5, .bp 5 0), (20, .bool v0)] [(5, .box 35 [.int .i64 pair.1, .int .i64 pair.2.1, .int .i64 pair.2.2])] ?_
 rcases zI h with ⟨hb2, h⟩ | ⟨hb2, h⟩
 ·refine zB [(0, .sl (.sl (.pair (.int .i64) .bool)) x0), (1, .sl (.pair (.int .i64) (.pair (.int .i64) (.int .i64))) circle), (5, .bp 5 0), (24, .bool true)] [(5, .box 35 [.int .i64 pair.1, .int .i64 pair.2.1, .int .i64 pair.2.2])] ?_
  refine AW.cond (b := true) rfl (fun _ => ?_) (fun hb3 => by cases hb3)
  refine zo ?_
  obtain ⟨v0_2, hv4, h⟩ := Option.bind_eq_some_iff.1 h
  refine zC [] [] (hc_lineallaw09_Awake hv4) [(25, .bool v0_2)] [] ?_
  refine zB [(6, .bool v0_2)] [] ?_
  refine zr ?_
  obtain rfl := Option.some.inj h
  exact zR [] [] []
 ·refine zB [(0, .sl (.sl (.pair (.int .i64) .bool)) x0), (1, .sl (.pair (.int .i64) (.pair (.int .i64) (.int .i64))) circle), (5, .bp 5 0), (24, .bool (decide (20 < (circle.length : Int))))] [(5, .box 35 [.int .i64 pair.1, .int .i64 pair.2.1, .int .i64 pair.2.2])] ?_
  refine zQ h (fun hb5 h => ?_) (fun hb5 h => ?_)
  ·refine zo ?_
   obtain ⟨v0_3, hv6, h⟩ := Option.bind_eq_some_iff.1 h
   refine zC [] [] (hc_lineallaw09_Awake hv6) [(25, .bool v0_3)] [] ?_
   refine zB [(6, .bool v0_3)] [] ?_
   refine zr ?_
   obtain rfl := Option.some.inj h
   exact zR [] [] []
  ·refine zk ?_
   refine zo ?_
   refine zS 2 [(0, .sl (.sl (.pair (.int .i64) .bool)) x0), (1, .sl (.pair (.int .i64) (.pair (.int .i64) (.int .i64))) circle), (5, .bp 5 0), (27, .sl (.sl (.pair (.int .i64) .bool)) x0), (28, .sl (.pair (.int .i64) (.pair (.int .i64) (.int .i64))) circle)] [(5, .box 35 [.int .i64 pair.1, .int .i64 pair.2.1, .int .i64 pair.2.2])] ?_
   obtain ⟨v0_4, hv7, h⟩ := Option.bind_eq_some_iff.1 h
   refine zC [] [] (hc_delay_IsCircle x0 circle hv7) [(0, .sl (.sl (.pair (.int .i64) .bool)) x0), (1, .sl (.pair (.int .i64) (.pair (.int .i64) (.int .i64))) circle), (5, .bp 5 0), (29, .tup [.bool v0_4.1, .int .i64 v0_4.2])] [(5, .box 35 [.int .i64 pair.1, .int .i64 pair.2.1, .int .i64 pair.2.2])] ?_
   refine zB [(0, .sl (.sl (.pair (.int .i64) .bool)) x0), (1, .sl (.pair (.int .i64) (.pair (.int .i64) (.int .i64))) circle), (5, .bp 5 0), (7, .bool v0_4.1), (8, .int .i64 v0_4.2)] [(5, .box 35 [.int .i64 pair.1, .int .i64 pair.2.1, .int .i64 pair.2.2])] ?_
   refine zo ?_
   refine zS 2 [(0, .sl (.sl (.pair (.int .i64) .bool)) x0), (5, .bp 5 0), (7, .bool v0_4.1), (8, .int .i64 v0_4.2), (33, .sl (.sl (.pair (.int .i64) .bool)) x0), (34, .sl (.pair (.int .i64) (.pair (.int .i64) (.int .i64))) circle)] [(5, .box 35 [.int .i64 pair.1, .int .i64 pair.2.1, .int .i64 pair.2.2])] ?_
   obtain ⟨v0_5, hv8, h⟩ := Option.bind_eq_some_iff.1 h
   refine zC [] [] (hc_linealref09_IsCircle x0 circle hv8) [(0, .sl (.sl (.pair (.int .i64) .bool)) x0), (5, .bp 5 0), (7, .bool v0_4.1), (8, .int .i64 v0_4.2), (35, .tup [.bool v0_5.1, .int .i64 v0_5.2])] [(5, .box 35 [.int .i64 pair.1, .int .i64 pair.2.1, .int .i64 pair.2.2])] ?_
   refine zB [(0, .sl (.sl (.pair (.int .i64) .bool)) x0), (5, .bp 5 0), (7, .bool v0_4.1), (8, .int .i64 v0_4.2), (9, .bool v0_5.1), (10, .int .i64 v0_5.2)] [(5, .box 35 [.int .i64 pair.1, .int .i64 pair.2.1, .int .i64 pair.2.2])] ?_
   refine zo ?_
   refine zS 1 [(0, .sl (.sl (.pair (.int .i64) .bool)) x0), (5, .bp 5 0), (7, .bool v0_4.1), (8, .int .i64 v0_4.2), (9, .bool v0_5.1), (10, .int .i64 v0_5.2), (39, .sl (.sl (.pair (.int .i64) .bool)) x0)] [(5, .box 35 [.int .i64 pair.1, .int .i64 pair.2.1, .int .i64 pair.2.2])] ?_
   obtain ⟨v0_6, hv9, h⟩ := Option.bind_eq_some_iff.1 h
   refine zC [] [] (hc_delay_Circles x0 hv9) [(0, .sl (.sl (.pair (.int .i64) .bool)) x0), (5, .bp 5 0), (7, .bool v0_4.1), (8, .int .i64 v0_4.2), (9, .bool v0_5.1), (10, .int .i64 v0_5.2), (40, .tup [.int .i64 v0_6.1, .int .i64 v0_6.2])] [(5, .box 35 [.int .i64 pair.1, .int .i64 pair.2.1, .int .i64 pair.2.2])] ?_
   refine zB [(0, .sl (.sl (.pair (.int .i64) .bool)) x0), (5, .bp 5 0), (7, .bool v0_4.1), (8, .int .i64 v0_4.2), (9, .bool v0_5.1), (10, .int .i64 v0_5.2), (11, .int .i64 v0_6.1), (12, .int .i64 v0_6.2)] [(5, .box 35 [.int .i64 pair.1, .int .i64 pair.2.1, .int .i64 pair.2.2])] ?_
   refine zo ?_
   refine zS 1 [(0, .sl (.sl (.pair (.int .i64) .bool)) x0), (5, .bp 5 0), (7, .bool v0_4.1), (8, .int .i64 v0_4.2), (9, .bool v0_5.1), (10, .int .i64 v0_5.2), (11, .int .i64 v0_6.1), (12, .int .i64 v0_6.2), (44, .sl (.sl (.pair (.int .i64) .bool)) x0)] [(5, .box 35 [.int .i64 pair.1, .int .i64 pair.2.1, .int .i64 pair.2.2])] ?_
   obtain ⟨v0_7, hv10, h⟩ := Option.bind_eq_some_iff.1 h
   refine zC [] [] (hc_linealref09_Circles x0 hv10) [(0, .sl (.sl (.pair (.int .i64) .bool)) x0), (5, .bp 5 0), (7, .bool v0_4.1), (8, .int .i64 v0_4.2), (9, .bool v0_5.1), (10, .int .i64 v0_5.2), (11, .int .i64 v0_6.1), (12, .int .i64 v0_6.2), (45, .tup [.int .i64 v0_7.1, .int .i64 v0_7.2])] [(5, .box 35 [.int .i64 pair.1, .int .i64 pair.2.1, .int .i64 pair.2.2])] ?_
   refine zB [(0, .sl (.sl (.pair (.int .i64) .bool)) x0), (5, .bp 5 0), (7, .bool v0_4.1), (8, .int .i64 v0_4.2), (9, .bool v0_5.1), (10, .int .i64 v0_5.2), (11, .int .i64 v0_6.1), (12, .int .i64 v0_6.2), (13, .int .i64 v0_7.1), (14, .int .i64 v0_7.2)] [(5, .box 35 [.int .i64 pair.1, .int .i64 pair.2.1, .int .i64 pair.2.2])] ?_
   refine AW.seq ?_
   refine zo ?_
   refine zS 4 [(0, .sl (.sl (.pair (.int .i64) .bool)) x0), (5, .bp 5 0), (8, .int .i64 v0_4.2), (10, .int .i64 v0_5.2), (11, .int .i64 v0_6.1), (12, .int .i64 v0_6.2), (13, .int .i64 v0_7.1), (14, .int .i64 v0_7.2), (51, .bool ((v0_4.1 == v0_5.1) != true))] [(5, .box 35 [.int .i64 pair.1, .int .i64 pair.2.1, .int .i64 pair.2.2])] ?_
   rcases zI h with ⟨hb11, h⟩ | ⟨hb11, h⟩
   ·refine zS 5 [(0, .sl (.sl (.pair (.int .i64) .bool)) x0), (5, .bp 5 0), (11, .int .i64 v0_6.1), (12, .int .i64 v0_6.2), (13, .int .i64 v0_7.1), (14, .int .i64 v0_7.2), (56, .bool true)] [(5, .box 35 [.int .i64 pair.1, .int .i64 pair.2.1, .int .i64 pair.2.2])] ?_
    refine zS 5 [(0, .sl (.sl (.pair (.int .i64) .bool)) x0), (5, .bp 5 0), (12, .int .i64 v0_6.2), (14, .int .i64 v0_7.2), (61, .bool true)] [(5, .box 35 [.int .i64 pair.1, .int .i64 pair.2.1, .int .i64 pair.2.2])] ?_
    refine zB [(0, .sl (.sl (.pair (.int .i64) .bool)) x0), (5, .bp 5 0), (65, .bool true)] [(5, .box 35 [.int .i64 pair.1, .int .i64 pair.2.1, .int .i64 pair.2.2])] ?_
    refine AW.cond (b := true) rfl (fun _ => ?_) (fun hb12 => by cases hb12)
    refine zo ?_
    refine zB [(6, .bool false)] [] ?_
    refine zr ?_
    obtain rfl := Option.some.inj h
    exact zR [] [] []
   ·refine zS 5 [(0, .sl (.sl (.pair (.int .i64) .bool)) x0), (5, .bp 5 0), (11, .int .i64 v0_6.1), (12, .int .i64 v0_6.2), (13, .int .i64 v0_7.1), (14, .int .i64 v0_7.2), (56, .bool (!(decide (v0_4.2 = v0_5.2))))] [(5, .box 35 [.int .i64 pair.1, .int .i64 pair.2.1, .int .i64 pair.2.2])] ?_
    rcases zI h with ⟨hb13, h⟩ | ⟨hb13, h⟩
    ·refine zS 5 [(0, .sl (.sl (.pair (.int .i64) .bool)) x0), (5, .bp 5 0), (12, .int .i64 v0_6.2), (14, .int .i64 v0_7.2), (61, .bool true)] [(5, .box 35 [.int .i64 pair.1, .int .i64 pair.2.1, .int .i64 pair.2.2])] ?_
     refine zB [(0, .sl (.sl (.pair (.int .i64) .bool)) x0), (5, .bp 5 0), (65, .bool true)] [(5, .box 35 [.int .i64 pair.1, .int .i64 pair.2.1, .int .i64 pair.2.2])] ?_
     refine AW.cond (b := true) rfl (fun _ => ?_) (fun hb14 => by cases hb14)
     refine zo ?_
     refine zB [(6, .bool false)] [] ?_
     refine zr ?_
     obtain rfl := Option.some.inj h
     exact zR [] [] []
    ·refine zS 5 [(0, .sl (.sl (.pair (.int .i64) .bool)) x0), (5, .bp 5 0), (12, .int .i64 v0_6.2), (14, .int .i64 v0_7.2), (61, .bool (!(decide (v0_6.1 = v0_7.1))))] [(5, .box 35 [.int .i64 pair.1, .int .i64 pair.2.1, .int .i64 pair.2.2])] ?_
     rcases zI h with ⟨hb15, h⟩ | ⟨hb15, h⟩
     ·refine zB [(0, .sl (.sl (.pair (.int .i64) .bool)) x0), (5, .bp 5 0), (65, .bool true)] [(5, .box 35 [.int .i64 pair.1, .int .i64 pair.2.1, .int .i64 pair.2.2])] ?_
      refine AW.cond (b := true) rfl (fun _ => ?_) (fun hb16 => by cases hb16)
      refine zo ?_
      refine zB [(6, .bool false)] [] ?_
      refine zr ?_
      obtain rfl := Option.some.inj h
      exact zR [] [] []
     ·refine zB [(0, .sl (.sl (.pair (.int .i64) .bool)) x0), (5, .bp 5 0), (65, .bool (!(decide (v0_6.2 = v0_7.2))))] [(5, .box 35 [.int .i64 pair.1, .int .i64 pair.2.1, .int .i64 pair.2.2])] ?_
      refine zQ h (fun hb17 h => ?_) (fun hb17 h => ?_)
      ·refine zo ?_
       refine zB [(6, .bool false)] [] ?_
       refine zr ?_
       obtain rfl := Option.some.inj h
       exact zR [] [] []
      ·refine zk ?_
       refine zo ?_
       refine zS 1 [(0, .sl (.sl (.pair (.int .i64) .bool)) x0), (5, .bp 5 0), (67, .sl (.sl (.pair (.int .i64) .bool)) x0)] [(5, .box 35 [.int .i64 pair.1, .int .i64 pair.2.1, .int .i64 pair.2.2])] ?_
       obtain ⟨v0_8, hv18, h⟩ := Option.bind_eq_some_iff.1 h
       refine zC [] [] (hc_delay_Needed x0 hv18) [(0, .sl (.sl (.pair (.int .i64) .bool)) x0), (5, .bp 5 0), (68, .tup [.own 78000, .int .i64 v0_8.2])] [(5, .box 35 [.int .i64 pair.1, .int .i64 pair.2.1, .int .i64 pair.2.2]), (78000, .arr 35 (.pair (.int .i64) (.pair (.int .i64) (.int .i64))) v0_8.1)] ?_
       refine zB [(0, .sl (.sl (.pair (.int .i64) .bool)) x0), (5, .bp 5 0), (8, .int .i64 v0_8.2), (15, .own 78000)] [(5, .box 35 [.int .i64 pair.1, .int .i64 pair.2.1, .int .i64 pair.2.2]), (78000, .arr 35 (.pair (.int .i64) (.pair (.int .i64) (.int .i64))) v0_8.1)] ?_
       refine zo ?_
       refine zS 1 [(0, .sl (.sl (.pair (.int .i64) .bool)) x0), (5, .bp 5 0), (8, .int .i64 v0_8.2), (15, .own 78000), (72, .sl (.sl (.pair (.int .i64) .bool)) x0)] [(5, .box 35 [.int .i64 pair.1, .int .i64 pair.2.1, .int .i64 pair.2.2]), (78000, .arr 35 (.pair (.int .i64) (.pair (.int .i64) (.int .i64))) v0_8.1)] ?_
       obtain ⟨v0_9, hv19, h⟩ := Option.bind_eq_some_iff.1 h
       refine zC [] [] (hc_linealref09_Needed x0 hv19) [(0, .sl (.sl (.pair (.int .i64) .bool)) x0), (5, .bp 5 0), (8, .int .i64 v0_8.2), (15, .own 78000), (73, .tup [.own 83000, .int .i64 v0_9.2])] [(5, .box 35 [.int .i64 pair.1, .int .i64 pair.2.1, .int .i64 pair.2.2]), (78000, .arr 35 (.pair (.int .i64) (.pair (.int .i64) (.int .i64))) v0_8.1), (83000, .arr 35 (.pair (.int .i64) (.pair (.int .i64) (.int .i64))) v0_9.1)] ?_
       refine zB [(0, .sl (.sl (.pair (.int .i64) .bool)) x0), (5, .bp 5 0), (8, .int .i64 v0_8.2), (10, .int .i64 v0_9.2), (15, .own 78000), (16, .own 83000)] [(5, .box 35 [.int .i64 pair.1, .int .i64 pair.2.1, .int .i64 pair.2.2]), (78000, .arr 35 (.pair (.int .i64) (.pair (.int .i64) (.int .i64))) v0_8.1), (83000, .arr 35 (.pair (.int .i64) (.pair (.int .i64) (.int .i64))) v0_9.1)] ?_
       refine AW.seq ?_
       refine zo ?_
       refine zS 2 [(0, .sl (.sl (.pair (.int .i64) .bool)) x0), (5, .bp 5 0), (8, .int .i64 v0_8.2), (10, .int .i64 v0_9.2), (16, .own 83000), (76, .own 78000), (77, .own 83000)] [(5, .box 35 [.int .i64 pair.1, .int .i64 pair.2.1, .int .i64 pair.2.2]), (78000, .arr 35 (.pair (.int .i64) (.pair (.int .i64) (.int .i64))) v0_8.1), (83000, .arr 35 (.pair (.int .i64) (.pair (.int .i64) (.int .i64))) v0_9.1)] ?_
       obtain ⟨v0_10, hv20, h⟩ := Option.bind_eq_some_iff.1 h
       refine zC [78000, 83000] [] (hc_linealref09_SameStations v0_8.1 v0_9.1 hv20) [(0, .sl (.sl (.pair (.int .i64) .bool)) x0), (5, .bp 5 0), (8, .int .i64 v0_8.2), (10, .int .i64 v0_9.2), (16, .own 83000), (78, .bool v0_10)] [(5, .box 35 [.int .i64 pair.1, .int .i64 pair.2.1, .int .i64 pair.2.2]), (83000, .arr 35 (.pair (.int .i64) (.pair (.int .i64) (.int .i64))) v0_9.1)] ?_
       refine zS 2 [(0, .sl (.sl (.pair (.int .i64) .bool)) x0), (5, .bp 5 0), (8, .int .i64 v0_8.2), (10, .int .i64 v0_9.2), (16, .own 83000), (80, .bool (!v0_10))] [(5, .box 35 [.int .i64 pair.1, .int .i64 pair.2.1, .int .i64 pair.2.2]), (83000, .arr 35 (.pair (.int .i64) (.pair (.int .i64) (.int .i64))) v0_9.1)] ?_
       rcases zI h with ⟨hb21, h⟩ | ⟨hb21, h⟩
       ·refine zB [(0, .sl (.sl (.pair (.int .i64) .bool)) x0), (5, .bp 5 0), (10, .int .i64 v0_9.2), (16, .own 83000), (84, .bool true)] [(5, .box 35 [.int .i64 pair.1, .int .i64 pair.2.1, .int .i64 pair.2.2]), (83000, .arr 35 (.pair (.int .i64) (.pair (.int .i64) (.int .i64))) v0_9.1)] ?_
        refine AW.cond (b := true) rfl (fun _ => ?_) (fun hb22 => by cases hb22)
        refine zo ?_
        refine zB [(6, .bool false)] [] ?_
        refine zr ?_
        obtain rfl := Option.some.inj h
        exact zR [] [] []
       ·refine zB [(0, .sl (.sl (.pair (.int .i64) .bool)) x0), (5, .bp 5 0), (10, .int .i64 v0_9.2), (16, .own 83000), (84, .bool (!(decide (v0_8.2 = v0_9.2))))] [(5, .box 35 [.int .i64 pair.1, .int .i64 pair.2.1, .int .i64 pair.2.2]), (83000, .arr 35 (.pair (.int .i64) (.pair (.int .i64) (.int .i64))) v0_9.1)] ?_
        refine zQ h (fun hb23 h => ?_) (fun hb23 h => ?_)
        ·refine zo ?_
         refine zB [(6, .bool false)] [] ?_
         refine zr ?_
         obtain rfl := Option.some.inj h
         exact zR [] [] []
        ·refine zk ?_
         refine zo ?_
         refine zS 2 [(0, .sl (.sl (.pair (.int .i64) .bool)) x0), (5, .bp 5 0), (10, .int .i64 v0_9.2), (16, .own 83000), (86, .sl (.sl (.pair (.int .i64) .bool)) x0), (87, .agg [.int .i64 pair.1, .int .i64 pair.2.1, .int .i64 pair.2.2])] [(5, .box 35 [.int .i64 pair.1, .int .i64 pair.2.1, .int .i64 pair.2.2]), (83000, .arr 35 (.pair (.int .i64) (.pair (.int .i64) (.int .i64))) v0_9.1)] ?_
         obtain ⟨v0_11, hv24, h⟩ := Option.bind_eq_some_iff.1 h
         refine zC [] [] (hc_delay_Circle x0 pair hv24) [(0, .sl (.sl (.pair (.int .i64) .bool)) x0), (5, .bp 5 0), (10, .int .i64 v0_9.2), (16, .own 83000), (88, .tup [.sl (.pair (.int .i64) (.pair (.int .i64) (.int .i64))) v0_11.1, .int .i64 v0_11.2])] [(5, .box 35 [.int .i64 pair.1, .int .i64 pair.2.1, .int .i64 pair.2.2]), (83000, .arr 35 (.pair (.int .i64) (.pair (.int .i64) (.int .i64))) v0_9.1)] ?_
         refine zB [(0, .sl (.sl (.pair (.int .i64) .bool)) x0), (5, .bp 5 0), (10, .int .i64 v0_9.2), (12, .int .i64 v0_11.2), (16, .own 83000), (17, .sl (.pair (.int .i64) (.pair (.int .i64) (.int .i64))) v0_11.1)] [(5, .box 35 [.int .i64 pair.1, .int .i64 pair.2.1, .int .i64 pair.2.2]), (83000, .arr 35 (.pair (.int .i64) (.pair (.int .i64) (.int .i64))) v0_9.1)] ?_
         refine AW.seq ?_
         refine zo ?_
         refine zB [(0, .sl (.sl (.pair (.int .i64) .bool)) x0), (5, .bp 5 0), (10, .int .i64 v0_9.2), (12, .int .i64 v0_11.2), (16, .own 83000), (17, .sl (.pair (.int .i64) (.pair (.int .i64) (.int .i64))) v0_11.1), (92, .bool (!(decide (v0_9.2 = 0))))] [(5, .box 35 [.int .i64 pair.1, .int .i64 pair.2.1, .int .i64 pair.2.2]), (83000, .arr 35 (.pair (.int .i64) (.pair (.int .i64) (.int .i64))) v0_9.1)] ?_
         refine zQ h (fun hb25 h => ?_) (fun hb25 h => ?_)
         ·refine zo ?_
          refine zS 4 [(17, .sl (.pair (.int .i64) (.pair (.int .i64) (.int .i64))) v0_11.1), (96, .bool (decide (v0_11.2 = v0_9.2)))] [] ?_
          rcases zI h with ⟨hb26, h⟩ | ⟨hb26, h⟩
          ·refine zS 5 [(101, .bool (decide ((v0_11.1.length : Int) = 0)))] [] ?_
           rcases zI h with ⟨hb27, h⟩ | ⟨hb27, h⟩
           ·refine zT [(101, .bool true)] [] gt ?_
            obtain ⟨v0_12, hv28, h⟩ := Option.bind_eq_some_iff.1 h
            refine zG [] [] (hc_lineallaw09_Awake hv28) [(101, .bool true), (102, .bool v0_12)] [] ?_
            refine zB [(6, .bool v0_12)] [] ?_
            refine zr ?_
            obtain rfl := Option.some.inj h
            exact zR [] [] []
           ·refine zB [(6, .bool false)] [] ?_
            refine zr ?_
            obtain rfl := Option.some.inj h
            exact zR [] [] []
          ·refine zS 5 [(101, .bool false)] [] ?_
           refine zB [(6, .bool false)] [] ?_
           refine zr ?_
           obtain rfl := Option.some.inj h
           exact zR [] [] []
         ·refine zk ?_
          refine AW.seq ?_
          refine zo ?_
          refine zS 2 [(0, .sl (.sl (.pair (.int .i64) .bool)) x0), (5, .bp 5 0), (12, .int .i64 v0_11.2), (16, .own 83000), (17, .sl (.pair (.int .i64) (.pair (.int .i64) (.int .i64))) v0_11.1), (104, .sl (.sl (.pair (.int .i64) .bool)) x0), (105, .agg [.int .i64 pair.1, .int .i64 pair.2.1, .int .i64 pair.2.2])] [(5, .box 35 [.int .i64 pair.1, .int .i64 pair.2.1, .int .i64 pair.2.2]), (83000, .arr 35 (.pair (.int .i64) (.pair (.int .i64) (.int .i64))) v0_9.1)] ?_
          obtain ⟨v0_13, hv29, h⟩ := Option.bind_eq_some_iff.1 h
          refine zC [] [] (hc_linealref09_IsPair x0 pair hv29) [(0, .sl (.sl (.pair (.int .i64) .bool)) x0), (5, .bp 5 0), (12, .int .i64 v0_11.2), (16, .own 83000), (17, .sl (.pair (.int .i64) (.pair (.int .i64) (.int .i64))) v0_11.1), (106, .bool v0_13)] [(5, .box 35 [.int .i64 pair.1, .int .i64 pair.2.1, .int .i64 pair.2.2]), (83000, .arr 35 (.pair (.int .i64) (.pair (.int .i64) (.int .i64))) v0_9.1)] ?_
          refine zB [(0, .sl (.sl (.pair (.int .i64) .bool)) x0), (5, .bp 5 0), (12, .int .i64 v0_11.2), (16, .own 83000), (17, .sl (.pair (.int .i64) (.pair (.int .i64) (.int .i64))) v0_11.1), (107, .bool (!v0_13))] [(5, .box 35 [.int .i64 pair.1, .int .i64 pair.2.1, .int .i64 pair.2.2]), (83000, .arr 35 (.pair (.int .i64) (.pair (.int .i64) (.int .i64))) v0_9.1)] ?_
          refine zQ h (fun hb30 h => ?_) (fun hb30 h => ?_)
          ·refine zo ?_
           refine zS 3 [(17, .sl (.pair (.int .i64) (.pair (.int .i64) (.int .i64))) v0_11.1), (110, .bool (decide (v0_11.2 = 2)))] [] ?_
           rcases zI h with ⟨hb31, h⟩ | ⟨hb31, h⟩
           ·refine zS 5 [(115, .bool (decide ((v0_11.1.length : Int) = 0)))] [] ?_
            rcases zI h with ⟨hb32, h⟩ | ⟨hb32, h⟩
            ·refine zT [(115, .bool true)] [] gt ?_
             obtain ⟨v0_14, hv33, h⟩ := Option.bind_eq_some_iff.1 h
             refine zG [] [] (hc_lineallaw09_Awake hv33) [(115, .bool true), (116, .bool v0_14)] [] ?_
             refine zB [(6, .bool v0_14)] [] ?_
             refine zr ?_
             obtain rfl := Option.some.inj h
             exact zR [] [] []
            ·refine zB [(6, .bool false)] [] ?_
             refine zr ?_
             obtain rfl := Option.some.inj h
             exact zR [] [] []
           ·refine zS 5 [(115, .bool false)] [] ?_
            refine zB [(6, .bool false)] [] ?_
            refine zr ?_
            obtain rfl := Option.some.inj h
            exact zR [] [] []
          ·refine zk ?_
           refine AW.seq ?_
           refine zo ?_
           refine zS 2 [(0, .sl (.sl (.pair (.int .i64) .bool)) x0), (5, .bp 5 0), (12, .int .i64 v0_11.2), (17, .sl (.pair (.int .i64) (.pair (.int .i64) (.int .i64))) v0_11.1), (118, .own 83000), (119, .agg [.int .i64 pair.1, .int .i64 pair.2.1, .int .i64 pair.2.2])] [(5, .box 35 [.int .i64 pair.1, .int .i64 pair.2.1, .int .i64 pair.2.2]), (83000, .arr 35 (.pair (.int .i64) (.pair (.int .i64) (.int .i64))) v0_9.1)] ?_
           obtain ⟨v0_15, hv34, h⟩ := Option.bind_eq_some_iff.1 h
           refine zC [83000] [] (hc_lineallaw09_in v0_9.1 pair hv34) [(0, .sl (.sl (.pair (.int .i64) .bool)) x0), (5, .bp 5 0), (12, .int .i64 v0_11.2), (17, .sl (.pair (.int .i64) (.pair (.int .i64) (.int .i64))) v0_11.1), (120, .bool v0_15)] [(5, .box 35 [.int .i64 pair.1, .int .i64 pair.2.1, .int .i64 pair.2.2])] ?_
           refine zB [(0, .sl (.sl (.pair (.int .i64) .bool)) x0), (5, .bp 5 0), (12, .int .i64 v0_11.2), (17, .sl (.pair (.int .i64) (.pair (.int .i64) (.int .i64))) v0_11.1), (121, .bool (!v0_15))] [(5, .box 35 [.int .i64 pair.1, .int .i64 pair.2.1, .int .i64 pair.2.2])] ?_
           refine zQ h (fun hb35 h => ?_) (fun hb35 h => ?_)
           ·refine zo ?_
            refine zS 3 [(17, .sl (.pair (.int .i64) (.pair (.int .i64) (.int .i64))) v0_11.1), (124, .bool (decide (v0_11.2 = 5)))] [] ?_
            rcases zI h with ⟨hb36, h⟩ | ⟨hb36, h⟩
            ·refine zS 5 [(129, .bool (decide ((v0_11.1.length : Int) = 0)))] [] ?_
             rcases zI h with ⟨hb37, h⟩ | ⟨hb37, h⟩
             ·refine zT [(129, .bool true)] [] gt ?_
              obtain ⟨v0_16, hv38, h⟩ := Option.bind_eq_some_iff.1 h
              refine zG [] [] (hc_lineallaw09_Awake hv38) [(129, .bool true), (130, .bool v0_16)] [] ?_
              refine zB [(6, .bool v0_16)] [] ?_
              refine zr ?_
              obtain rfl := Option.some.inj h
              exact zR [] [] []
             ·refine zB [(6, .bool false)] [] ?_
              refine zr ?_
              obtain rfl := Option.some.inj h
              exact zR [] [] []
            ·refine zS 5 [(129, .bool false)] [] ?_
             refine zB [(6, .bool false)] [] ?_
             refine zr ?_
             obtain rfl := Option.some.inj h
             exact zR [] [] []
           ·refine zk ?_
            refine zo ?_
            refine zS 2 [(5, .bp 5 0), (12, .int .i64 v0_11.2), (17, .sl (.pair (.int .i64) (.pair (.int .i64) (.int .i64))) v0_11.1), (133, .sl (.sl (.pair (.int .i64) .bool)) x0), (134, .sl (.pair (.int .i64) (.pair (.int .i64) (.int .i64))) v0_11.1)] [(5, .box 35 [.int .i64 pair.1, .int .i64 pair.2.1, .int .i64 pair.2.2])] ?_
            obtain ⟨v0_17, hv39, h⟩ := Option.bind_eq_some_iff.1 h
            refine zC [] [] (hc_linealref09_IsCircle x0 v0_11.1 hv39) [(5, .bp 5 0), (12, .int .i64 v0_11.2), (17, .sl (.pair (.int .i64) (.pair (.int .i64) (.int .i64))) v0_11.1), (135, .tup [.bool v0_17.1, .int .i64 v0_17.2])] [(5, .box 35 [.int .i64 pair.1, .int .i64 pair.2.1, .int .i64 pair.2.2])] ?_
            refine zB [(5, .bp 5 0), (7, .bool v0_17.1), (12, .int .i64 v0_11.2), (14, .int .i64 v0_17.2), (17, .sl (.pair (.int .i64) (.pair (.int .i64) (.int .i64))) v0_11.1)] [(5, .box 35 [.int .i64 pair.1, .int .i64 pair.2.1, .int .i64 pair.2.2])] ?_
            refine zo ?_
            refine zS 3 [(5, .bp 5 0), (7, .bool v0_17.1), (14, .int .i64 v0_17.2), (17, .sl (.pair (.int .i64) (.pair (.int .i64) (.int .i64))) v0_11.1), (140, .bool (decide (v0_11.2 = 0)))] [(5, .box 35 [.int .i64 pair.1, .int .i64 pair.2.1, .int .i64 pair.2.2])] ?_
            rcases zI h with ⟨hb40, h⟩ | ⟨hb40, h⟩
            ·refine zS 4 [(5, .bp 5 0), (7, .bool v0_17.1), (17, .sl (.pair (.int .i64) (.pair (.int .i64) (.int .i64))) v0_11.1), (144, .bool (decide (v0_17.2 = 0)))] [(5, .box 35 [.int .i64 pair.1, .int .i64 pair.2.1, .int .i64 pair.2.2])] ?_
             rcases zI h with ⟨hb41, h⟩ | ⟨hb41, h⟩
             ·refine zS 3 [(5, .bp 5 0), (17, .sl (.pair (.int .i64) (.pair (.int .i64) (.int .i64))) v0_11.1), (147, .bool v0_17.1)] [(5, .box 35 [.int .i64 pair.1, .int .i64 pair.2.1, .int .i64 pair.2.2])] ?_
              rcases zI h with ⟨hb42, h⟩ | ⟨hb42, h⟩
              ·refine zS 2 [(147, .bool true), (148, .sl (.pair (.int .i64) (.pair (.int .i64) (.int .i64))) v0_11.1), (149, .agg [.int .i64 pair.1, .int .i64 pair.2.1, .int .i64 pair.2.2])] [] ?_
               obtain ⟨v0_18, hv43, h⟩ := Option.bind_eq_some_iff.1 h
               refine zG [] [] (hc_lineallaw09_in v0_11.1 pair hv43) [(147, .bool true), (150, .bool v0_18)] [] ?_
               refine zS 2 [(152, .bool v0_18)] [] ?_
               rcases zI h with ⟨hb44, h⟩ | ⟨hb44, h⟩
               ·refine zT [(152, .bool true)] [] gt ?_
                obtain ⟨v0_19, hv45, h⟩ := Option.bind_eq_some_iff.1 h
                refine zG [] [] (hc_lineallaw09_Awake hv45) [(152, .bool true), (153, .bool v0_19)] [] ?_
                refine zB [(6, .bool v0_19)] [] ?_
                refine AW.ret ?_
                obtain rfl := Option.some.inj h
                exact zR [] [] []
               ·refine zB [(6, .bool false)] [] ?_
                refine AW.ret ?_
                obtain rfl := Option.some.inj h
                exact zR [] [] []
              ·refine zS 5 [(152, .bool false)] [] ?_
               refine zB [(6, .bool false)] [] ?_
               refine AW.ret ?_
               obtain rfl := Option.some.inj h
               exact zR [] [] []
             ·refine zS 5 [(147, .bool false), (148, .cv (undef)), (149, .cv (undef))] [] ?_
              refine zS 5 [(154, .bool false)] [] ?_
              refine zB [(6, .bool false)] [] ?_
              refine AW.ret ?_
              obtain rfl := Option.some.inj h
              exact zR [] [] []
            ·refine zS 5 [(5, .bp 5 0), (17, .sl (.pair (.int .i64) (.pair (.int .i64) (.int .i64))) v0_11.1), (144, .bool false), (145, .cv (undef))] [(5, .box 35 [.int .i64 pair.1, .int .i64 pair.2.1, .int .i64 pair.2.2])] ?_
             refine zS 5 [(147, .bool false), (150, .cv (undef))] [] ?_
             refine zB [(6, .bool false)] [] ?_
             refine AW.ret ?_
             obtain rfl := Option.some.inj h
             exact zR [] [] []

end Go.Proofs.Ytdicomoggfhbfaa
