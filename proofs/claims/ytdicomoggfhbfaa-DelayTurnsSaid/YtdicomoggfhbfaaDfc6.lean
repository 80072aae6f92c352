/-
  Made by wip/tool/dc.py out of the print of the program: contracts.
-/
import Derived.Test.YtdicomoggfhbfaaDlp
import Derived.Test.YtdicomoggfhbfaaShd
import Derived.Test.YtdicomoggfhbfaaDfc1
import Derived.Test.YtdicomoggfhbfaaDfc3
import Derived.Test.YtdicomoggfhbfaaDfc4
import Derived.Test.YtdicomoggfhbfaaDfc5
namespace Go.Proofs.Ytdicomoggfhbfaa
open Go.RowKit

set_option linter.unusedSimpArgs false
set_option linter.unusedVariables false
set_option linter.constructorNameAsVariable false

set_option maxRecDepth 100000
set_option maxHeartbeats 40000000

theorem hc_lineallaw09_in (l : List (Int × Int × Int)) (s : Int × Int × Int) {r : Bool} (h : lineallaw09_in l s = some r) : HC Try.prog 32 [] [.sl (.pair (.int .i64) (.pair (.int .i64) (.int .i64))) l, .agg [.int .i64 s.1, .int .i64 s.2.1, .int .i64 s.2.2]] [] (.bool r) := by
 unfold lineallaw09_in at h
 refine zH Try.func32 [.tmp 4] 17 ?_
 refine zo ?_
 refine zB [(0, .sl (.pair (.int .i64) (.pair (.int .i64) (.int .i64))) l), (3, .bp 3 0)] [(3, .box 35 [.int .i64 s.1, .int .i64 s.2.1, .int .i64 s.2.2])] ?_
 refine AW.have1 (fun _ : Unit => lineallaw09_in_k1 = some r) (fun _ => ⟨fr [], hpGet [], gt⟩) (fun _ h => ?_) (fun hk_lineallaw09_in_k1 => ?_)
 ·as_aux_lemma =>
   unfold lineallaw09_in_k1 at h
   refine zo ?_
   refine zB [(4, .bool false)] [] ?_
   refine AW.ret ?_
   obtain rfl := Option.some.inj h
   exact zR [] [] []
 ·refine AW.seq ?_
  refine zo ?_
  refine zB [(3, .bp 3 0), (7, .sl (.pair (.int .i64) (.pair (.int .i64) (.int .i64))) l), (8, .int .i64 (l.length : Int)), (9, .int .i64 0)] [(3, .box 35 [.int .i64 s.1, .int .i64 s.2.1, .int .i64 s.2.2])] ?_
  refine AW.block ?_
  obtain ⟨rv5, hw1, ho2⟩ := Option.bind_eq_some_iff.1 h
  refine AW.loopO (lineallaw09_in_b1 l s) (fun st1 => ⟨fr [(3, .bp 3 0), (7, .sl (.pair (.int .i64) (.pair (.int .i64) (.int .i64))) l), (8, .int .i64 (l.length : Int)), (9, .int .i64 st1)], hpGet [(3, .box 35 [.int .i64 s.1, .int .i64 s.2.1, .int .i64 s.2.2])], gt⟩) 0 hw1 (zL [] [] []) ?_
  as_aux_lemma =>
   intro st1 x4 h hd3
   unfold lineallaw09_in_b1 at h
   refine zo ?_
   refine zB [(3, .bp 3 0), (7, .sl (.pair (.int .i64) (.pair (.int .i64) (.int .i64))) l), (8, .int .i64 (l.length : Int)), (9, .int .i64 st1), (10, .bool (decide (st1 < (l.length : Int))))] [(3, .box 35 [.int .i64 s.1, .int .i64 s.2.1, .int .i64 s.2.2])] ?_
   refine AW.seq ?_
   refine zQ h (fun hb6 h => ?_) (fun hb6 h => ?_)
   ·refine zk ?_
    refine AW.seq ?_
    refine AW.block ?_
    refine zo ?_
    obtain ⟨c7, h⟩ := ck_some.1 h
    obtain ⟨c8, h⟩ := ck_some.1 h
    refine zB [(3, .bp 3 0), (6, .bp 6 0), (7, .sl (.pair (.int .i64) (.pair (.int .i64) (.int .i64))) l), (8, .int .i64 (l.length : Int)), (9, .int .i64 st1)] [(3, .box 35 [.int .i64 s.1, .int .i64 s.2.1, .int .i64 s.2.2]), (6, .box 35 [.int .i64 (l.getD st1.toNat (0, 0, 0)).1, .int .i64 (l.getD st1.toNat (0, 0, 0)).2.1, .int .i64 (l.getD st1.toNat (0, 0, 0)).2.2])] ?_
    refine zo ?_
    refine zS 2 [(3, .bp 3 0), (7, .sl (.pair (.int .i64) (.pair (.int .i64) (.int .i64))) l), (8, .int .i64 (l.length : Int)), (9, .int .i64 st1), (13, .agg [.int .i64 (l.getD st1.toNat (0, 0, 0)).1, .int .i64 (l.getD st1.toNat (0, 0, 0)).2.1, .int .i64 (l.getD st1.toNat (0, 0, 0)).2.2]), (14, .agg [.int .i64 s.1, .int .i64 s.2.1, .int .i64 s.2.2])] [(3, .box 35 [.int .i64 s.1, .int .i64 s.2.1, .int .i64 s.2.2])] ?_
    obtain ⟨c9, h⟩ := ck_some.1 h
    obtain ⟨c10, h⟩ := ck_some.1 h
    obtain ⟨c11, h⟩ := ck_some.1 h
    obtain ⟨c12, h⟩ := ck_some.1 h
    obtain ⟨c13, h⟩ := ck_some.1 h
    obtain ⟨c14, h⟩ := ck_some.1 h
    refine AO.aggEq (neg := false) eqty_35 (by decide) rfl rfl (lx := [.int .i64 (l.getD st1.toNat (0, 0, 0)).1, .int .i64 (l.getD st1.toNat (0, 0, 0)).2.1, .int .i64 (l.getD st1.toNat (0, 0, 0)).2.2]) (ly := [.int .i64 s.1, .int .i64 s.2.1, .int .i64 s.2.2]) (by first | rfl | (simp only [go_sem, hb6]) <;> (with_reducible and_intros) <;> first | assumption | rfl | omega | (unfold maxLen; omega)) (by first | rfl | (simp only [go_sem, hb6]) <;> (with_reducible and_intros) <;> first | assumption | rfl | omega | (unfold maxLen; omega)) (by first | rfl | (simp only [go_sem, hb6]) <;> (with_reducible and_intros) <;> first | assumption | rfl | omega | (unfold maxLen; omega)) (by first | rfl | (simp only [go_sem, hb6]) <;> (with_reducible and_intros) <;> first | assumption | rfl | omega | (unfold maxLen; omega)) (by first | assumption | omega | (simp only [go_sem, hb6]) <;> (with_reducible and_intros) <;> first | assumption | rfl | omega | (unfold maxLen; omega)) (by first | assumption | omega | (simp only [go_sem, hb6]) <;> (with_reducible and_intros) <;> first | assumption | rfl | omega | (unfold maxLen; omega)) ?_
    refine zT [(3, .bp 3 0), (7, .sl (.pair (.int .i64) (.pair (.int .i64) (.int .i64))) l), (8, .int .i64 (l.length : Int)), (9, .int .i64 st1), (15, .bool (decide ((l.getD st1.toNat (0, 0, 0)) = s)))] [(3, .box 35 [.int .i64 s.1, .int .i64 s.2.1, .int .i64 s.2.2])] gt ?_
    refine zB [(3, .bp 3 0), (7, .sl (.pair (.int .i64) (.pair (.int .i64) (.int .i64))) l), (8, .int .i64 (l.length : Int)), (9, .int .i64 st1), (15, .bool (decide ((l.getD st1.toNat (0, 0, 0)) = s)))] [(3, .box 35 [.int .i64 s.1, .int .i64 s.2.1, .int .i64 s.2.2])] ?_
    refine zQ h (fun hb15 h => ?_) (fun hb15 h => ?_)
    ·refine zo ?_
     refine zB [(4, .bool true)] [] ?_
     refine AW.ret ?_
     refine ablock_r ?_
     refine athen_r ?_
     obtain rfl := Option.some.inj h
     try rw [← hd3 _ rfl] at ho2
     have h := ho2
     try simp only at h
     refine athen_r ?_
     refine ablock_r ?_
     refine athen_r ?_
     obtain rfl := Option.some.inj h
     exact zR [] [] []
    ·refine zm ?_
     refine athen_n ?_
     refine AW.ops ?_
     obtain ⟨c16, h⟩ := ck_some.1 h
     refine zA [(3, .bp 3 0), (7, .sl (.pair (.int .i64) (.pair (.int .i64) (.int .i64))) l), (8, .int .i64 (l.length : Int)), (9, .int .i64 (st1 + 1))] [(3, .box 35 [.int .i64 s.1, .int .i64 s.2.1, .int .i64 s.2.2])] ?_
     obtain rfl := Option.some.inj h
     exact ⟨_, rfl, zL [] [] []⟩
   ·refine AW.exit ?_
    refine athen_e ?_
    obtain rfl := Option.some.inj h
    try rw [← hd3 _ rfl] at ho2
    have h := ho2
    try simp only at h
    refine athen_e ?_
    refine ablock_s ?_
    refine athen_n ?_
    exact AW.weaken (zL [] [] []) (hk_lineallaw09_in_k1 () h)

theorem hc_lineallaw09_DelayTurns (x0 : List (List (Int × Bool))) {r : Bool} (h : lineallaw09_DelayTurns x0 = some r) : HC Try.prog 10 [] [.sl (.sl (.pair (.int .i64) .bool)) x0] [] (.bool r) := by
 unfold lineallaw09_DelayTurns at h
 refine zH Try.func10 [.tmp 2] 136 ?_
 refine zo ?_
 refine zB [(0, .sl (.sl (.pair (.int .i64) .bool)) x0)] [] ?_
 refine AW.seq ?_
 refine zo ?_
 refine zS 1 [(0, .sl (.sl (.pair (.int .i64) .bool)) x0), (16, .sl (.sl (.pair (.int .i64) .bool)) x0)] [] ?_
 obtain ⟨v0, hv1, h⟩ := Option.bind_eq_some_iff.1 h
 refine zC [] [] (hc_lineallaw09_Long x0 hv1) [(0, .sl (.sl (.pair (.int .i64) .bool)) x0), (17, .bool v0)] [] ?_
 refine zS 1 [(0, .sl (.sl (.pair (.int .i64) .bool)) x0), (18, .bool v0)] [] ?_
 rcases zI h with ⟨hb2, h⟩ | ⟨hb2, h⟩
 ·refine zB [(0, .sl (.sl (.pair (.int .i64) .bool)) x0), (22, .bool true)] [] ?_
  refine AW.cond (b := true) rfl (fun _ => ?_) (fun hb3 => by cases hb3)
  refine zo ?_
  obtain ⟨v0_2, hv4, h⟩ := Option.bind_eq_some_iff.1 h
  refine zC [] [] (hc_lineallaw09_Awake hv4) [(23, .bool v0_2)] [] ?_
  refine zB [(2, .bool v0_2)] [] ?_
  refine zr ?_
  obtain rfl := Option.some.inj h
  exact zR [] [] []
 ·refine zS 1 [(0, .sl (.sl (.pair (.int .i64) .bool)) x0), (18, .bool false), (19, .sl (.sl (.pair (.int .i64) .bool)) x0)] [] ?_
  obtain ⟨v0_3, hv5, h⟩ := Option.bind_eq_some_iff.1 h
  refine zG [] [] (hc_linealref09_Valid x0 hv5) [(0, .sl (.sl (.pair (.int .i64) .bool)) x0), (18, .bool false), (20, .bool v0_3)] [] ?_
  refine zB [(0, .sl (.sl (.pair (.int .i64) .bool)) x0), (22, .bool (!v0_3))] [] ?_
  refine zQ h (fun hb6 h => ?_) (fun hb6 h => ?_)
  ·refine zo ?_
   obtain ⟨v0_4, hv7, h⟩ := Option.bind_eq_some_iff.1 h
   refine zC [] [] (hc_lineallaw09_Awake hv7) [(23, .bool v0_4)] [] ?_
   refine zB [(2, .bool v0_4)] [] ?_
   refine zr ?_
   obtain rfl := Option.some.inj h
   exact zR [] [] []
  ·refine zk ?_
   refine zo ?_
   refine zS 1 [(0, .sl (.sl (.pair (.int .i64) .bool)) x0), (25, .sl (.sl (.pair (.int .i64) .bool)) x0)] [] ?_
   obtain ⟨v0_5, hv8, h⟩ := Option.bind_eq_some_iff.1 h
   refine zC [] [] (hc_delay_Turned x0 hv8) [(0, .sl (.sl (.pair (.int .i64) .bool)) x0), (26, .tup [.own 36000, .int .i64 v0_5.2])] [(36000, .arr 68 (.sl (.pair (.int .i64) .bool)) v0_5.1)] ?_
   refine zB [(0, .sl (.sl (.pair (.int .i64) .bool)) x0), (3, .own 36000), (4, .int .i64 v0_5.2)] [(36000, .arr 68 (.sl (.pair (.int .i64) .bool)) v0_5.1)] ?_
   refine zo ?_
   refine zS 1 [(0, .sl (.sl (.pair (.int .i64) .bool)) x0), (3, .own 36000), (4, .int .i64 v0_5.2), (30, .own 36000)] [(36000, .arr 68 (.sl (.pair (.int .i64) .bool)) v0_5.1)] ?_
   obtain ⟨v0_6, hv9, h⟩ := Option.bind_eq_some_iff.1 h
   refine zC [36000] [] (hc_delay_Turned v0_5.1 hv9) [(0, .sl (.sl (.pair (.int .i64) .bool)) x0), (3, .own 36000), (4, .int .i64 v0_5.2), (31, .tup [.own 41000, .int .i64 v0_6.2])] [(36000, .imm (.sl (.pair (.int .i64) .bool)) v0_5.1), (41000, .arr 68 (.sl (.pair (.int .i64) .bool)) v0_6.1)] ?_
   refine zB [(0, .sl (.sl (.pair (.int .i64) .bool)) x0), (3, .own 36000), (4, .int .i64 v0_5.2), (5, .own 41000), (6, .int .i64 v0_6.2)] [(36000, .imm (.sl (.pair (.int .i64) .bool)) v0_5.1), (41000, .arr 68 (.sl (.pair (.int .i64) .bool)) v0_6.1)] ?_
   refine AW.seq ?_
   refine zo ?_
   refine zS 3 [(0, .sl (.sl (.pair (.int .i64) .bool)) x0), (3, .own 36000), (5, .own 41000), (6, .int .i64 v0_6.2), (36, .bool (!(decide (v0_5.2 = 0))))] [(36000, .imm (.sl (.pair (.int .i64) .bool)) v0_5.1), (41000, .arr 68 (.sl (.pair (.int .i64) .bool)) v0_6.1)] ?_
   rcases zI h with ⟨hb10, h⟩ | ⟨hb10, h⟩
   ·refine zS 5 [(0, .sl (.sl (.pair (.int .i64) .bool)) x0), (3, .own 36000), (40, .bool true), (41, .cv (undef))] [(36000, .imm (.sl (.pair (.int .i64) .bool)) v0_5.1)] ?_
    refine zS 5 [(0, .sl (.sl (.pair (.int .i64) .bool)) x0), (3, .own 36000), (46, .bool true)] [(36000, .imm (.sl (.pair (.int .i64) .bool)) v0_5.1)] ?_
    refine zB [(0, .sl (.sl (.pair (.int .i64) .bool)) x0), (3, .own 36000), (50, .bool true)] [(36000, .imm (.sl (.pair (.int .i64) .bool)) v0_5.1)] ?_
    refine AW.cond (b := true) rfl (fun _ => ?_) (fun hb11 => by cases hb11)
    refine zo ?_
    refine zB [(2, .bool false)] [] ?_
    refine zr ?_
    obtain rfl := Option.some.inj h
    exact zR [] [] []
   ·refine zS 4 [(0, .sl (.sl (.pair (.int .i64) .bool)) x0), (3, .own 36000), (5, .own 41000), (40, .bool (!(decide (v0_6.2 = 0))))] [(36000, .imm (.sl (.pair (.int .i64) .bool)) v0_5.1), (41000, .arr 68 (.sl (.pair (.int .i64) .bool)) v0_6.1)] ?_
    rcases zI h with ⟨hb12, h⟩ | ⟨hb12, h⟩
    ·refine zS 4 [(0, .sl (.sl (.pair (.int .i64) .bool)) x0), (3, .own 36000), (40, .bool true), (44, .cv (undef))] [(36000, .imm (.sl (.pair (.int .i64) .bool)) v0_5.1)] ?_
     refine zS 5 [(0, .sl (.sl (.pair (.int .i64) .bool)) x0), (3, .own 36000), (46, .bool true), (49, .cv (undef))] [(36000, .imm (.sl (.pair (.int .i64) .bool)) v0_5.1)] ?_
     refine zB [(0, .sl (.sl (.pair (.int .i64) .bool)) x0), (3, .own 36000), (50, .bool true)] [(36000, .imm (.sl (.pair (.int .i64) .bool)) v0_5.1)] ?_
     refine AW.cond (b := true) rfl (fun _ => ?_) (fun hb13 => by cases hb13)
     refine zo ?_
     refine zB [(2, .bool false)] [] ?_
     refine zr ?_
     obtain rfl := Option.some.inj h
     exact zR [] [] []
    ·refine zS 2 [(0, .sl (.sl (.pair (.int .i64) .bool)) x0), (3, .own 36000), (40, .bool false), (41, .own 41000), (42, .sl (.sl (.pair (.int .i64) .bool)) x0)] [(36000, .imm (.sl (.pair (.int .i64) .bool)) v0_5.1), (41000, .arr 68 (.sl (.pair (.int .i64) .bool)) v0_6.1)] ?_
     obtain ⟨v0_7, hv14, h⟩ := Option.bind_eq_some_iff.1 h
     refine zG [41000] [] (hc_linealref09_SameAccesses v0_6.1 x0 hv14) [(0, .sl (.sl (.pair (.int .i64) .bool)) x0), (3, .own 36000), (40, .bool false), (43, .bool v0_7)] [(36000, .imm (.sl (.pair (.int .i64) .bool)) v0_5.1)] ?_
     refine zS 3 [(0, .sl (.sl (.pair (.int .i64) .bool)) x0), (3, .own 36000), (46, .bool (!v0_7))] [(36000, .imm (.sl (.pair (.int .i64) .bool)) v0_5.1)] ?_
     rcases zI h with ⟨hb15, h⟩ | ⟨hb15, h⟩
     ·refine zB [(0, .sl (.sl (.pair (.int .i64) .bool)) x0), (3, .own 36000), (50, .bool true)] [(36000, .imm (.sl (.pair (.int .i64) .bool)) v0_5.1)] ?_
      refine AW.cond (b := true) rfl (fun _ => ?_) (fun hb16 => by cases hb16)
      refine zo ?_
      refine zB [(2, .bool false)] [] ?_
      refine zr ?_
      obtain rfl := Option.some.inj h
      exact zR [] [] []
     ·refine zS 1 [(0, .sl (.sl (.pair (.int .i64) .bool)) x0), (3, .own 36000), (46, .bool false), (47, .own 36000)] [(36000, .imm (.sl (.pair (.int .i64) .bool)) v0_5.1)] ?_
      obtain ⟨v0_8, hv17, h⟩ := Option.bind_eq_some_iff.1 h
      refine zG [] [] (hc_linealref09_Valid v0_5.1 hv17) [(0, .sl (.sl (.pair (.int .i64) .bool)) x0), (3, .own 36000), (46, .bool false), (48, .bool v0_8)] [(36000, .imm (.sl (.pair (.int .i64) .bool)) v0_5.1)] ?_
      refine zB [(0, .sl (.sl (.pair (.int .i64) .bool)) x0), (3, .own 36000), (50, .bool (!v0_8))] [(36000, .imm (.sl (.pair (.int .i64) .bool)) v0_5.1)] ?_
      refine zQ h (fun hb18 h => ?_) (fun hb18 h => ?_)
      ·refine zo ?_
       refine zB [(2, .bool false)] [] ?_
       refine zr ?_
       obtain rfl := Option.some.inj h
       exact zR [] [] []
      ·refine zk ?_
       refine zo ?_
       refine zS 1 [(0, .sl (.sl (.pair (.int .i64) .bool)) x0), (3, .own 36000), (52, .sl (.sl (.pair (.int .i64) .bool)) x0)] [(36000, .imm (.sl (.pair (.int .i64) .bool)) v0_5.1)] ?_
       obtain ⟨v0_9, hv19, h⟩ := Option.bind_eq_some_iff.1 h
       refine zC [] [] (hc_delay_Needed x0 hv19) [(0, .sl (.sl (.pair (.int .i64) .bool)) x0), (3, .own 36000), (53, .tup [.own 63000, .int .i64 v0_9.2])] [(36000, .imm (.sl (.pair (.int .i64) .bool)) v0_5.1), (63000, .arr 35 (.pair (.int .i64) (.pair (.int .i64) (.int .i64))) v0_9.1)] ?_
       refine zB [(0, .sl (.sl (.pair (.int .i64) .bool)) x0), (3, .own 36000), (4, .int .i64 v0_9.2), (7, .own 63000)] [(36000, .imm (.sl (.pair (.int .i64) .bool)) v0_5.1), (63000, .arr 35 (.pair (.int .i64) (.pair (.int .i64) (.int .i64))) v0_9.1)] ?_
       refine zo ?_
       refine zS 1 [(0, .sl (.sl (.pair (.int .i64) .bool)) x0), (3, .own 36000), (4, .int .i64 v0_9.2), (7, .own 63000), (57, .own 36000)] [(36000, .imm (.sl (.pair (.int .i64) .bool)) v0_5.1), (63000, .arr 35 (.pair (.int .i64) (.pair (.int .i64) (.int .i64))) v0_9.1)] ?_
       obtain ⟨v0_10, hv20, h⟩ := Option.bind_eq_some_iff.1 h
       refine zC [] [] (hc_delay_Needed v0_5.1 hv20) [(0, .sl (.sl (.pair (.int .i64) .bool)) x0), (3, .own 36000), (4, .int .i64 v0_9.2), (7, .own 63000), (58, .tup [.own 68000, .int .i64 v0_10.2])] [(36000, .imm (.sl (.pair (.int .i64) .bool)) v0_5.1), (63000, .arr 35 (.pair (.int .i64) (.pair (.int .i64) (.int .i64))) v0_9.1), (68000, .arr 35 (.pair (.int .i64) (.pair (.int .i64) (.int .i64))) v0_10.1)] ?_
       refine zB [(0, .sl (.sl (.pair (.int .i64) .bool)) x0), (3, .own 36000), (4, .int .i64 v0_9.2), (6, .int .i64 v0_10.2), (7, .own 63000), (8, .own 68000)] [(36000, .imm (.sl (.pair (.int .i64) .bool)) v0_5.1), (63000, .arr 35 (.pair (.int .i64) (.pair (.int .i64) (.int .i64))) v0_9.1), (68000, .arr 35 (.pair (.int .i64) (.pair (.int .i64) (.int .i64))) v0_10.1)] ?_
       refine zo ?_
       refine zS 1 [(0, .sl (.sl (.pair (.int .i64) .bool)) x0), (3, .own 36000), (4, .int .i64 v0_9.2), (6, .int .i64 v0_10.2), (7, .own 63000), (8, .own 68000), (62, .sl (.sl (.pair (.int .i64) .bool)) x0)] [(36000, .imm (.sl (.pair (.int .i64) .bool)) v0_5.1), (63000, .arr 35 (.pair (.int .i64) (.pair (.int .i64) (.int .i64))) v0_9.1), (68000, .arr 35 (.pair (.int .i64) (.pair (.int .i64) (.int .i64))) v0_10.1)] ?_
       obtain ⟨v0_11, hv21, h⟩ := Option.bind_eq_some_iff.1 h
       refine zC [] [] (hc_delay_Circles x0 hv21) [(0, .sl (.sl (.pair (.int .i64) .bool)) x0), (3, .own 36000), (4, .int .i64 v0_9.2), (6, .int .i64 v0_10.2), (7, .own 63000), (8, .own 68000), (63, .tup [.int .i64 v0_11.1, .int .i64 v0_11.2])] [(36000, .imm (.sl (.pair (.int .i64) .bool)) v0_5.1), (63000, .arr 35 (.pair (.int .i64) (.pair (.int .i64) (.int .i64))) v0_9.1), (68000, .arr 35 (.pair (.int .i64) (.pair (.int .i64) (.int .i64))) v0_10.1)] ?_
       refine zB [(0, .sl (.sl (.pair (.int .i64) .bool)) x0), (3, .own 36000), (4, .int .i64 v0_9.2), (6, .int .i64 v0_10.2), (7, .own 63000), (8, .own 68000), (9, .int .i64 v0_11.1), (10, .int .i64 v0_11.2)] [(36000, .imm (.sl (.pair (.int .i64) .bool)) v0_5.1), (63000, .arr 35 (.pair (.int .i64) (.pair (.int .i64) (.int .i64))) v0_9.1), (68000, .arr 35 (.pair (.int .i64) (.pair (.int .i64) (.int .i64))) v0_10.1)] ?_
       refine zo ?_
       refine zS 1 [(0, .sl (.sl (.pair (.int .i64) .bool)) x0), (4, .int .i64 v0_9.2), (6, .int .i64 v0_10.2), (7, .own 63000), (8, .own 68000), (9, .int .i64 v0_11.1), (10, .int .i64 v0_11.2), (67, .own 36000)] [(36000, .imm (.sl (.pair (.int .i64) .bool)) v0_5.1), (63000, .arr 35 (.pair (.int .i64) (.pair (.int .i64) (.int .i64))) v0_9.1), (68000, .arr 35 (.pair (.int .i64) (.pair (.int .i64) (.int .i64))) v0_10.1)] ?_
       obtain ⟨v0_12, hv22, h⟩ := Option.bind_eq_some_iff.1 h
       refine zC [] [] (hc_delay_Circles v0_5.1 hv22) [(0, .sl (.sl (.pair (.int .i64) .bool)) x0), (4, .int .i64 v0_9.2), (6, .int .i64 v0_10.2), (7, .own 63000), (8, .own 68000), (9, .int .i64 v0_11.1), (10, .int .i64 v0_11.2), (68, .tup [.int .i64 v0_12.1, .int .i64 v0_12.2])] [(63000, .arr 35 (.pair (.int .i64) (.pair (.int .i64) (.int .i64))) v0_9.1), (68000, .arr 35 (.pair (.int .i64) (.pair (.int .i64) (.int .i64))) v0_10.1)] ?_
       refine zB [(0, .sl (.sl (.pair (.int .i64) .bool)) x0), (4, .int .i64 v0_9.2), (6, .int .i64 v0_10.2), (7, .own 63000), (8, .own 68000), (9, .int .i64 v0_11.1), (10, .int .i64 v0_11.2), (11, .int .i64 v0_12.1), (12, .int .i64 v0_12.2)] [(63000, .arr 35 (.pair (.int .i64) (.pair (.int .i64) (.int .i64))) v0_9.1), (68000, .arr 35 (.pair (.int .i64) (.pair (.int .i64) (.int .i64))) v0_10.1)] ?_
       refine AW.seq ?_
       refine zo ?_
       refine zS 3 [(0, .sl (.sl (.pair (.int .i64) .bool)) x0), (6, .int .i64 v0_10.2), (7, .own 63000), (8, .own 68000), (9, .int .i64 v0_11.1), (10, .int .i64 v0_11.2), (11, .int .i64 v0_12.1), (12, .int .i64 v0_12.2), (73, .bool (!(decide (v0_9.2 = 0))))] [(63000, .arr 35 (.pair (.int .i64) (.pair (.int .i64) (.int .i64))) v0_9.1), (68000, .arr 35 (.pair (.int .i64) (.pair (.int .i64) (.int .i64))) v0_10.1)] ?_
       rcases zI h with ⟨hb23, h⟩ | ⟨hb23, h⟩
       ·refine zS 5 [(0, .sl (.sl (.pair (.int .i64) .bool)) x0), (7, .own 63000), (8, .own 68000), (9, .int .i64 v0_11.1), (11, .int .i64 v0_12.1), (12, .int .i64 v0_12.2), (77, .bool true), (78, .cv (undef))] [(63000, .arr 35 (.pair (.int .i64) (.pair (.int .i64) (.int .i64))) v0_9.1), (68000, .arr 35 (.pair (.int .i64) (.pair (.int .i64) (.int .i64))) v0_10.1)] ?_
        refine zS 5 [(0, .sl (.sl (.pair (.int .i64) .bool)) x0), (7, .own 63000), (8, .own 68000), (9, .int .i64 v0_11.1), (11, .int .i64 v0_12.1), (81, .bool true), (83, .cv (undef))] [(63000, .arr 35 (.pair (.int .i64) (.pair (.int .i64) (.int .i64))) v0_9.1), (68000, .arr 35 (.pair (.int .i64) (.pair (.int .i64) (.int .i64))) v0_10.1)] ?_
        refine zS 5 [(0, .sl (.sl (.pair (.int .i64) .bool)) x0), (7, .own 63000), (8, .own 68000), (9, .int .i64 v0_11.1), (11, .int .i64 v0_12.1), (85, .bool true), (87, .cv (undef)), (88, .cv (undef))] [(63000, .arr 35 (.pair (.int .i64) (.pair (.int .i64) (.int .i64))) v0_9.1), (68000, .arr 35 (.pair (.int .i64) (.pair (.int .i64) (.int .i64))) v0_10.1)] ?_
        refine zS 5 [(0, .sl (.sl (.pair (.int .i64) .bool)) x0), (7, .own 63000), (8, .own 68000), (11, .int .i64 v0_12.1), (92, .bool true), (93, .cv (undef))] [(63000, .arr 35 (.pair (.int .i64) (.pair (.int .i64) (.int .i64))) v0_9.1), (68000, .arr 35 (.pair (.int .i64) (.pair (.int .i64) (.int .i64))) v0_10.1)] ?_
        refine zB [(0, .sl (.sl (.pair (.int .i64) .bool)) x0), (7, .own 63000), (8, .own 68000), (96, .bool true)] [(63000, .arr 35 (.pair (.int .i64) (.pair (.int .i64) (.int .i64))) v0_9.1), (68000, .arr 35 (.pair (.int .i64) (.pair (.int .i64) (.int .i64))) v0_10.1)] ?_
        refine AW.cond (b := true) rfl (fun _ => ?_) (fun hb24 => by cases hb24)
        refine zo ?_
        refine zB [(2, .bool false)] [] ?_
        refine zr ?_
        obtain rfl := Option.some.inj h
        exact zR [] [] []
       ·refine zS 4 [(0, .sl (.sl (.pair (.int .i64) .bool)) x0), (7, .own 63000), (8, .own 68000), (9, .int .i64 v0_11.1), (10, .int .i64 v0_11.2), (11, .int .i64 v0_12.1), (12, .int .i64 v0_12.2), (77, .bool (!(decide (v0_10.2 = 0))))] [(63000, .arr 35 (.pair (.int .i64) (.pair (.int .i64) (.int .i64))) v0_9.1), (68000, .arr 35 (.pair (.int .i64) (.pair (.int .i64) (.int .i64))) v0_10.1)] ?_
        rcases zI h with ⟨hb25, h⟩ | ⟨hb25, h⟩
        ·refine zS 5 [(0, .sl (.sl (.pair (.int .i64) .bool)) x0), (7, .own 63000), (8, .own 68000), (9, .int .i64 v0_11.1), (11, .int .i64 v0_12.1), (81, .bool true), (82, .cv (undef))] [(63000, .arr 35 (.pair (.int .i64) (.pair (.int .i64) (.int .i64))) v0_9.1), (68000, .arr 35 (.pair (.int .i64) (.pair (.int .i64) (.int .i64))) v0_10.1)] ?_
         refine zS 5 [(0, .sl (.sl (.pair (.int .i64) .bool)) x0), (7, .own 63000), (8, .own 68000), (9, .int .i64 v0_11.1), (11, .int .i64 v0_12.1), (85, .bool true), (87, .cv (undef))] [(63000, .arr 35 (.pair (.int .i64) (.pair (.int .i64) (.int .i64))) v0_9.1), (68000, .arr 35 (.pair (.int .i64) (.pair (.int .i64) (.int .i64))) v0_10.1)] ?_
         refine zS 5 [(0, .sl (.sl (.pair (.int .i64) .bool)) x0), (7, .own 63000), (8, .own 68000), (9, .int .i64 v0_11.1), (11, .int .i64 v0_12.1), (92, .bool true)] [(63000, .arr 35 (.pair (.int .i64) (.pair (.int .i64) (.int .i64))) v0_9.1), (68000, .arr 35 (.pair (.int .i64) (.pair (.int .i64) (.int .i64))) v0_10.1)] ?_
         refine zB [(0, .sl (.sl (.pair (.int .i64) .bool)) x0), (7, .own 63000), (8, .own 68000), (96, .bool true)] [(63000, .arr 35 (.pair (.int .i64) (.pair (.int .i64) (.int .i64))) v0_9.1), (68000, .arr 35 (.pair (.int .i64) (.pair (.int .i64) (.int .i64))) v0_10.1)] ?_
         refine AW.cond (b := true) rfl (fun _ => ?_) (fun hb26 => by cases hb26)
         refine zo ?_
         refine zB [(2, .bool false)] [] ?_
         refine zr ?_
         obtain rfl := Option.some.inj h
         exact zR [] [] []
        ·refine zS 4 [(0, .sl (.sl (.pair (.int .i64) .bool)) x0), (7, .own 63000), (8, .own 68000), (9, .int .i64 v0_11.1), (11, .int .i64 v0_12.1), (12, .int .i64 v0_12.2), (81, .bool (!(decide (v0_11.2 = 0))))] [(63000, .arr 35 (.pair (.int .i64) (.pair (.int .i64) (.int .i64))) v0_9.1), (68000, .arr 35 (.pair (.int .i64) (.pair (.int .i64) (.int .i64))) v0_10.1)] ?_
         rcases zI h with ⟨hb27, h⟩ | ⟨hb27, h⟩
         ·refine zS 5 [(0, .sl (.sl (.pair (.int .i64) .bool)) x0), (7, .own 63000), (8, .own 68000), (9, .int .i64 v0_11.1), (11, .int .i64 v0_12.1), (85, .bool true), (86, .cv (undef))] [(63000, .arr 35 (.pair (.int .i64) (.pair (.int .i64) (.int .i64))) v0_9.1), (68000, .arr 35 (.pair (.int .i64) (.pair (.int .i64) (.int .i64))) v0_10.1)] ?_
          refine zS 4 [(0, .sl (.sl (.pair (.int .i64) .bool)) x0), (7, .own 63000), (8, .own 68000), (9, .int .i64 v0_11.1), (11, .int .i64 v0_12.1), (85, .bool true), (90, .cv (undef))] [(63000, .arr 35 (.pair (.int .i64) (.pair (.int .i64) (.int .i64))) v0_9.1), (68000, .arr 35 (.pair (.int .i64) (.pair (.int .i64) (.int .i64))) v0_10.1)] ?_
          refine zS 5 [(0, .sl (.sl (.pair (.int .i64) .bool)) x0), (7, .own 63000), (8, .own 68000), (92, .bool true), (95, .cv (undef))] [(63000, .arr 35 (.pair (.int .i64) (.pair (.int .i64) (.int .i64))) v0_9.1), (68000, .arr 35 (.pair (.int .i64) (.pair (.int .i64) (.int .i64))) v0_10.1)] ?_
          refine zB [(0, .sl (.sl (.pair (.int .i64) .bool)) x0), (7, .own 63000), (8, .own 68000), (96, .bool true)] [(63000, .arr 35 (.pair (.int .i64) (.pair (.int .i64) (.int .i64))) v0_9.1), (68000, .arr 35 (.pair (.int .i64) (.pair (.int .i64) (.int .i64))) v0_10.1)] ?_
          refine AW.cond (b := true) rfl (fun _ => ?_) (fun hb28 => by cases hb28)
          refine zo ?_
          refine zB [(2, .bool false)] [] ?_
          refine zr ?_
          obtain rfl := Option.some.inj h
          exact zR [] [] []
         ·refine zS 4 [(0, .sl (.sl (.pair (.int .i64) .bool)) x0), (7, .own 63000), (8, .own 68000), (9, .int .i64 v0_11.1), (11, .int .i64 v0_12.1), (85, .bool (!(decide (v0_12.2 = 0))))] [(63000, .arr 35 (.pair (.int .i64) (.pair (.int .i64) (.int .i64))) v0_9.1), (68000, .arr 35 (.pair (.int .i64) (.pair (.int .i64) (.int .i64))) v0_10.1)] ?_
          rcases zI h with ⟨hb29, h⟩ | ⟨hb29, h⟩
          ·refine zS 4 [(0, .sl (.sl (.pair (.int .i64) .bool)) x0), (7, .own 63000), (8, .own 68000), (9, .int .i64 v0_11.1), (11, .int .i64 v0_12.1), (85, .bool true), (87, .cv (undef)), (89, .cv (undef))] [(63000, .arr 35 (.pair (.int .i64) (.pair (.int .i64) (.int .i64))) v0_9.1), (68000, .arr 35 (.pair (.int .i64) (.pair (.int .i64) (.int .i64))) v0_10.1)] ?_
           refine zS 5 [(0, .sl (.sl (.pair (.int .i64) .bool)) x0), (7, .own 63000), (8, .own 68000), (92, .bool true), (93, .cv (undef)), (94, .cv (undef))] [(63000, .arr 35 (.pair (.int .i64) (.pair (.int .i64) (.int .i64))) v0_9.1), (68000, .arr 35 (.pair (.int .i64) (.pair (.int .i64) (.int .i64))) v0_10.1)] ?_
           refine zB [(0, .sl (.sl (.pair (.int .i64) .bool)) x0), (7, .own 63000), (8, .own 68000), (96, .bool true)] [(63000, .arr 35 (.pair (.int .i64) (.pair (.int .i64) (.int .i64))) v0_9.1), (68000, .arr 35 (.pair (.int .i64) (.pair (.int .i64) (.int .i64))) v0_10.1)] ?_
           refine AW.cond (b := true) rfl (fun _ => ?_) (fun hb30 => by cases hb30)
           refine zo ?_
           refine zB [(2, .bool false)] [] ?_
           refine zr ?_
           obtain rfl := Option.some.inj h
           exact zR [] [] []
          ·refine zS 5 [(0, .sl (.sl (.pair (.int .i64) .bool)) x0), (7, .own 63000), (8, .own 68000), (9, .int .i64 v0_11.1), (11, .int .i64 v0_12.1), (85, .bool false), (90, .bool (!(decide ((v0_9.1.length : Int) = (v0_10.1.length : Int)))))] [(63000, .arr 35 (.pair (.int .i64) (.pair (.int .i64) (.int .i64))) v0_9.1), (68000, .arr 35 (.pair (.int .i64) (.pair (.int .i64) (.int .i64))) v0_10.1)] ?_
           refine zS 2 [(0, .sl (.sl (.pair (.int .i64) .bool)) x0), (7, .own 63000), (8, .own 68000), (9, .int .i64 v0_11.1), (11, .int .i64 v0_12.1), (92, .bool (!(decide ((v0_9.1.length : Int) = (v0_10.1.length : Int)))))] [(63000, .arr 35 (.pair (.int .i64) (.pair (.int .i64) (.int .i64))) v0_9.1), (68000, .arr 35 (.pair (.int .i64) (.pair (.int .i64) (.int .i64))) v0_10.1)] ?_
           rcases zI h with ⟨hb31, h⟩ | ⟨hb31, h⟩
           ·refine zB [(0, .sl (.sl (.pair (.int .i64) .bool)) x0), (7, .own 63000), (8, .own 68000), (96, .bool true)] [(63000, .arr 35 (.pair (.int .i64) (.pair (.int .i64) (.int .i64))) v0_9.1), (68000, .arr 35 (.pair (.int .i64) (.pair (.int .i64) (.int .i64))) v0_10.1)] ?_
            refine AW.cond (b := true) rfl (fun _ => ?_) (fun hb32 => by cases hb32)
            refine zo ?_
            refine zB [(2, .bool false)] [] ?_
            refine zr ?_
            obtain rfl := Option.some.inj h
            exact zR [] [] []
           ·refine zB [(0, .sl (.sl (.pair (.int .i64) .bool)) x0), (7, .own 63000), (8, .own 68000), (96, .bool (!(decide (v0_11.1 = v0_12.1))))] [(63000, .arr 35 (.pair (.int .i64) (.pair (.int .i64) (.int .i64))) v0_9.1), (68000, .arr 35 (.pair (.int .i64) (.pair (.int .i64) (.int .i64))) v0_10.1)] ?_
            refine zQ h (fun hb33 h => ?_) (fun hb33 h => ?_)
            ·refine zo ?_
             refine zB [(2, .bool false)] [] ?_
             refine zr ?_
             obtain rfl := Option.some.inj h
             exact zR [] [] []
            ·refine zk ?_
             refine AW.have1 (fun _ : Unit => lineallaw09_DelayTurns_k1 = some r) (fun _ => ⟨fr [], hpGet [], gt⟩) (fun _ h => ?_) (fun hk_lineallaw09_DelayTurns_k1 => ?_)
             ·as_aux_lemma =>
               unfold lineallaw09_DelayTurns_k1 at h
               refine zo ?_
               obtain ⟨v0_14, hv34, h⟩ := Option.bind_eq_some_iff.1 h
               refine zC [] [] (hc_lineallaw09_Awake hv34) [(135, .bool v0_14)] [] ?_
               refine zB [(2, .bool v0_14)] [] ?_
               refine AW.ret ?_
               obtain rfl := Option.some.inj h
               exact zR [] [] []
             ·refine AW.seq ?_
              refine zo ?_
              refine zB [(0, .sl (.sl (.pair (.int .i64) .bool)) x0), (8, .own 68000), (97, .own 63000), (98, .int .i64 (v0_9.1.length : Int)), (99, .int .i64 0)] [(63000, .arr 35 (.pair (.int .i64) (.pair (.int .i64) (.int .i64))) v0_9.1), (68000, .arr 35 (.pair (.int .i64) (.pair (.int .i64) (.int .i64))) v0_10.1)] ?_
              refine AW.block ?_
              obtain ⟨rv39, hw35, ho36⟩ := Option.bind_eq_some_iff.1 h
              refine AW.loopO (lineallaw09_DelayTurns_b1 x0 v0_9 v0_10) (fun st1 => ⟨fr [(0, .sl (.sl (.pair (.int .i64) .bool)) x0), (8, .own 68000), (97, .own 63000), (98, .int .i64 (v0_9.1.length : Int)), (99, .int .i64 st1)], hpGet [(63000, .arr 35 (.pair (.int .i64) (.pair (.int .i64) (.int .i64))) v0_9.1), (68000, .arr 35 (.pair (.int .i64) (.pair (.int .i64) (.int .i64))) v0_10.1)], gt⟩) 0 hw35 (zL [] [] []) ?_
              as_aux_lemma =>
               intro st1 x38 h hd37
               unfold lineallaw09_DelayTurns_b1 at h
               refine zo ?_
               refine zB [(0, .sl (.sl (.pair (.int .i64) .bool)) x0), (8, .own 68000), (97, .own 63000), (98, .int .i64 (v0_9.1.length : Int)), (99, .int .i64 st1), (100, .bool (decide (st1 < (v0_9.1.length : Int))))] [(63000, .arr 35 (.pair (.int .i64) (.pair (.int .i64) (.int .i64))) v0_9.1), (68000, .arr 35 (.pair (.int .i64) (.pair (.int .i64) (.int .i64))) v0_10.1)] ?_
               refine AW.seq ?_
               refine zQ h (fun hb40 h => ?_) (fun hb40 h => ?_)
               ·refine zk ?_
                refine AW.seq ?_
                refine AW.block ?_
                refine zo ?_
                obtain ⟨c41, h⟩ := ck_some.1 h
                obtain ⟨c42, h⟩ := ck_some.1 h
                refine zB [(0, .sl (.sl (.pair (.int .i64) .bool)) x0), (8, .own 68000), (14, .bp 14 0), (97, .own 63000), (98, .int .i64 (v0_9.1.length : Int)), (99, .int .i64 st1)] [(14, .box 35 [.int .i64 (v0_9.1.getD st1.toNat (0, 0, 0)).1, .int .i64 (v0_9.1.getD st1.toNat (0, 0, 0)).2.1, .int .i64 (v0_9.1.getD st1.toNat (0, 0, 0)).2.2]), (63000, .arr 35 (.pair (.int .i64) (.pair (.int .i64) (.int .i64))) v0_9.1), (68000, .arr 35 (.pair (.int .i64) (.pair (.int .i64) (.int .i64))) v0_10.1)] ?_
                refine AW.seq ?_
                refine zo ?_
                refine zS 4 [(0, .sl (.sl (.pair (.int .i64) .bool)) x0), (8, .own 68000), (14, .bp 14 0), (97, .own 63000), (98, .int .i64 (v0_9.1.length : Int)), (99, .int .i64 st1), (106, .bool (decide ((v0_9.1.getD st1.toNat (0, 0, 0)).1 < 0)))] [(14, .box 35 [.int .i64 (v0_9.1.getD st1.toNat (0, 0, 0)).1, .int .i64 (v0_9.1.getD st1.toNat (0, 0, 0)).2.1, .int .i64 (v0_9.1.getD st1.toNat (0, 0, 0)).2.2]), (63000, .arr 35 (.pair (.int .i64) (.pair (.int .i64) (.int .i64))) v0_9.1), (68000, .arr 35 (.pair (.int .i64) (.pair (.int .i64) (.int .i64))) v0_10.1)] ?_
                rcases zI h with ⟨hb43, h⟩ | ⟨hb43, h⟩
                ·refine zS 4 [(0, .sl (.sl (.pair (.int .i64) .bool)) x0), (8, .own 68000), (14, .bp 14 0), (97, .own 63000), (98, .int .i64 (v0_9.1.length : Int)), (99, .int .i64 st1), (106, .bool true), (108, .cv (undef)), (110, .cv (undef))] [(14, .box 35 [.int .i64 (v0_9.1.getD st1.toNat (0, 0, 0)).1, .int .i64 (v0_9.1.getD st1.toNat (0, 0, 0)).2.1, .int .i64 (v0_9.1.getD st1.toNat (0, 0, 0)).2.2]), (63000, .arr 35 (.pair (.int .i64) (.pair (.int .i64) (.int .i64))) v0_9.1), (68000, .arr 35 (.pair (.int .i64) (.pair (.int .i64) (.int .i64))) v0_10.1)] ?_
                 refine zB [(0, .sl (.sl (.pair (.int .i64) .bool)) x0), (8, .own 68000), (14, .bp 14 0), (97, .own 63000), (98, .int .i64 (v0_9.1.length : Int)), (99, .int .i64 st1), (112, .bool true)] [(14, .box 35 [.int .i64 (v0_9.1.getD st1.toNat (0, 0, 0)).1, .int .i64 (v0_9.1.getD st1.toNat (0, 0, 0)).2.1, .int .i64 (v0_9.1.getD st1.toNat (0, 0, 0)).2.2]), (63000, .arr 35 (.pair (.int .i64) (.pair (.int .i64) (.int .i64))) v0_9.1), (68000, .arr 35 (.pair (.int .i64) (.pair (.int .i64) (.int .i64))) v0_10.1)] ?_
                 refine AW.cond (b := true) rfl (fun _ => ?_) (fun hb44 => by cases hb44)
                 refine zo ?_
                 refine zB [(2, .bool false)] [] ?_
                 refine zr ?_
                 refine ablock_r ?_
                 refine athen_r ?_
                 obtain rfl := Option.some.inj h
                 try rw [← hd37 _ rfl] at ho36
                 have h := ho36
                 try simp only at h
                 refine athen_r ?_
                 refine ablock_r ?_
                 refine athen_r ?_
                 obtain rfl := Option.some.inj h
                 exact zR [] [] []
                ·refine zS 5 [(0, .sl (.sl (.pair (.int .i64) .bool)) x0), (8, .own 68000), (14, .bp 14 0), (97, .own 63000), (98, .int .i64 (v0_9.1.length : Int)), (99, .int .i64 st1), (106, .bool false), (111, .bool (decide ((x0.length : Int) ≤ (v0_9.1.getD st1.toNat (0, 0, 0)).1)))] [(14, .box 35 [.int .i64 (v0_9.1.getD st1.toNat (0, 0, 0)).1, .int .i64 (v0_9.1.getD st1.toNat (0, 0, 0)).2.1, .int .i64 (v0_9.1.getD st1.toNat (0, 0, 0)).2.2]), (63000, .arr 35 (.pair (.int .i64) (.pair (.int .i64) (.int .i64))) v0_9.1), (68000, .arr 35 (.pair (.int .i64) (.pair (.int .i64) (.int .i64))) v0_10.1)] ?_
                 refine zB [(0, .sl (.sl (.pair (.int .i64) .bool)) x0), (8, .own 68000), (14, .bp 14 0), (97, .own 63000), (98, .int .i64 (v0_9.1.length : Int)), (99, .int .i64 st1), (112, .bool (decide ((x0.length : Int) ≤ (v0_9.1.getD st1.toNat (0, 0, 0)).1)))] [(14, .box 35 [.int .i64 (v0_9.1.getD st1.toNat (0, 0, 0)).1, .int .i64 (v0_9.1.getD st1.toNat (0, 0, 0)).2.1, .int .i64 (v0_9.1.getD st1.toNat (0, 0, 0)).2.2]), (63000, .arr 35 (.pair (.int .i64) (.pair (.int .i64) (.int .i64))) v0_9.1), (68000, .arr 35 (.pair (.int .i64) (.pair (.int .i64) (.int .i64))) v0_10.1)] ?_
                 refine zQ h (fun hb45 h => ?_) (fun hb45 h => ?_)
                 ·refine zo ?_
                  refine zB [(2, .bool false)] [] ?_
                  refine zr ?_
                  refine ablock_r ?_
                  refine athen_r ?_
                  obtain rfl := Option.some.inj h
                  try rw [← hd37 _ rfl] at ho36
                  have h := ho36
                  try simp only at h
                  refine athen_r ?_
                  refine ablock_r ?_
                  refine athen_r ?_
                  obtain rfl := Option.some.inj h
                  exact zR [] [] []
                 ·refine zk ?_
                  refine zo ?_
                  obtain ⟨c46, h⟩ := ck_some.1 h
                  obtain ⟨c47, h⟩ := ck_some.1 h
                  refine zS 5 [(0, .sl (.sl (.pair (.int .i64) .bool)) x0), (8, .own 68000), (14, .bp 14 0), (97, .own 63000), (98, .int .i64 (v0_9.1.length : Int)), (99, .int .i64 st1), (117, .sl (.pair (.int .i64) .bool) (x0.getD (v0_9.1.getD st1.toNat (0, 0, 0)).1.toNat []))] [(14, .box 35 [.int .i64 (v0_9.1.getD st1.toNat (0, 0, 0)).1, .int .i64 (v0_9.1.getD st1.toNat (0, 0, 0)).2.1, .int .i64 (v0_9.1.getD st1.toNat (0, 0, 0)).2.2]), (63000, .arr 35 (.pair (.int .i64) (.pair (.int .i64) (.int .i64))) v0_9.1), (68000, .arr 35 (.pair (.int .i64) (.pair (.int .i64) (.int .i64))) v0_10.1)] ?_
                  obtain ⟨c48, h⟩ := ck_some.1 h
                  refine zB [(0, .sl (.sl (.pair (.int .i64) .bool)) x0), (8, .own 68000), (14, .bp 14 0), (15, .int .i64 (((x0.getD (v0_9.1.getD st1.toNat (0, 0, 0)).1.toNat []).length : Int) - 1)), (97, .own 63000), (98, .int .i64 (v0_9.1.length : Int)), (99, .int .i64 st1)] [(14, .box 35 [.int .i64 (v0_9.1.getD st1.toNat (0, 0, 0)).1, .int .i64 (v0_9.1.getD st1.toNat (0, 0, 0)).2.1, .int .i64 (v0_9.1.getD st1.toNat (0, 0, 0)).2.2]), (63000, .arr 35 (.pair (.int .i64) (.pair (.int .i64) (.int .i64))) v0_9.1), (68000, .arr 35 (.pair (.int .i64) (.pair (.int .i64) (.int .i64))) v0_10.1)] ?_
                  refine zo ?_
                  refine zS 5 [(0, .sl (.sl (.pair (.int .i64) .bool)) x0), (8, .own 68000), (14, .bp 14 0), (15, .int .i64 (((x0.getD (v0_9.1.getD st1.toNat (0, 0, 0)).1.toNat []).length : Int) - 1)), (97, .own 63000), (98, .int .i64 (v0_9.1.length : Int)), (99, .int .i64 st1), (120, .own 68000), (122, .int .i64 (v0_9.1.getD st1.toNat (0, 0, 0)).1), (123, .int .i64 (((x0.getD (v0_9.1.getD st1.toNat (0, 0, 0)).1.toNat []).length : Int) - 1)), (124, .bp 14 2)] [(14, .box 35 [.int .i64 (v0_9.1.getD st1.toNat (0, 0, 0)).1, .int .i64 (v0_9.1.getD st1.toNat (0, 0, 0)).2.1, .int .i64 (v0_9.1.getD st1.toNat (0, 0, 0)).2.2]), (63000, .arr 35 (.pair (.int .i64) (.pair (.int .i64) (.int .i64))) v0_9.1), (68000, .arr 35 (.pair (.int .i64) (.pair (.int .i64) (.int .i64))) v0_10.1)] ?_
                  obtain ⟨c49, h⟩ := ck_some.1 h
                  refine zS 5 [(0, .sl (.sl (.pair (.int .i64) .bool)) x0), (8, .own 68000), (97, .own 63000), (98, .int .i64 (v0_9.1.length : Int)), (99, .int .i64 st1), (120, .own 68000), (122, .int .i64 (v0_9.1.getD st1.toNat (0, 0, 0)).1), (126, .int .i64 ((((x0.getD (v0_9.1.getD st1.toNat (0, 0, 0)).1.toNat []).length : Int) - 1) - (v0_9.1.getD st1.toNat (0, 0, 0)).2.2)), (127, .int .i64 (((x0.getD (v0_9.1.getD st1.toNat (0, 0, 0)).1.toNat []).length : Int) - 1)), (129, .int .i64 (v0_9.1.getD st1.toNat (0, 0, 0)).2.1)] [(63000, .arr 35 (.pair (.int .i64) (.pair (.int .i64) (.int .i64))) v0_9.1), (68000, .arr 35 (.pair (.int .i64) (.pair (.int .i64) (.int .i64))) v0_10.1)] ?_
                  obtain ⟨c50, h⟩ := ck_some.1 h
                  refine zS 2 [(0, .sl (.sl (.pair (.int .i64) .bool)) x0), (8, .own 68000), (97, .own 63000), (98, .int .i64 (v0_9.1.length : Int)), (99, .int .i64 st1), (120, .own 68000), (131, .agg [.int .i64 (v0_9.1.getD st1.toNat (0, 0, 0)).1, .int .i64 ((((x0.getD (v0_9.1.getD st1.toNat (0, 0, 0)).1.toNat []).length : Int) - 1) - (v0_9.1.getD st1.toNat (0, 0, 0)).2.2), .int .i64 ((((x0.getD (v0_9.1.getD st1.toNat (0, 0, 0)).1.toNat []).length : Int) - 1) - (v0_9.1.getD st1.toNat (0, 0, 0)).2.1)])] [(63000, .arr 35 (.pair (.int .i64) (.pair (.int .i64) (.int .i64))) v0_9.1), (68000, .arr 35 (.pair (.int .i64) (.pair (.int .i64) (.int .i64))) v0_10.1)] ?_
                  obtain ⟨v0_13, hv51, h⟩ := Option.bind_eq_some_iff.1 h
                  refine zC [68000] [] (hc_lineallaw09_in v0_10.1 ((v0_9.1.getD st1.toNat (0, 0, 0)).1, ((((x0.getD (v0_9.1.getD st1.toNat (0, 0, 0)).1.toNat []).length : Int) - 1) - (v0_9.1.getD st1.toNat (0, 0, 0)).2.2), ((((x0.getD (v0_9.1.getD st1.toNat (0, 0, 0)).1.toNat []).length : Int) - 1) - (v0_9.1.getD st1.toNat (0, 0, 0)).2.1)) hv51) [(0, .sl (.sl (.pair (.int .i64) .bool)) x0), (8, .own 68000), (97, .own 63000), (98, .int .i64 (v0_9.1.length : Int)), (99, .int .i64 st1), (132, .bool v0_13)] [(63000, .arr 35 (.pair (.int .i64) (.pair (.int .i64) (.int .i64))) v0_9.1), (68000, .arr 35 (.pair (.int .i64) (.pair (.int .i64) (.int .i64))) v0_10.1)] ?_
                  refine zB [(0, .sl (.sl (.pair (.int .i64) .bool)) x0), (8, .own 68000), (97, .own 63000), (98, .int .i64 (v0_9.1.length : Int)), (99, .int .i64 st1), (133, .bool (!v0_13))] [(63000, .arr 35 (.pair (.int .i64) (.pair (.int .i64) (.int .i64))) v0_9.1), (68000, .arr 35 (.pair (.int .i64) (.pair (.int .i64) (.int .i64))) v0_10.1)] ?_
                  refine zQ h (fun hb52 h => ?_) (fun hb52 h => ?_)
                  ·refine zo ?_
                   refine zB [(2, .bool false)] [] ?_
                   refine AW.ret ?_
                   refine ablock_r ?_
                   refine athen_r ?_
                   obtain rfl := Option.some.inj h
                   try rw [← hd37 _ rfl] at ho36
                   have h := ho36
                   try simp only at h
                   refine athen_r ?_
                   refine ablock_r ?_
                   refine athen_r ?_
                   obtain rfl := Option.some.inj h
                   exact zR [] [] []
                  ·refine zm ?_
                   refine athen_n ?_
                   refine AW.ops ?_
                   obtain ⟨c53, h⟩ := ck_some.1 h
                   refine zA [(0, .sl (.sl (.pair (.int .i64) .bool)) x0), (8, .own 68000), (97, .own 63000), (98, .int .i64 (v0_9.1.length : Int)), (99, .int .i64 (st1 + 1))] [(63000, .arr 35 (.pair (.int .i64) (.pair (.int .i64) (.int .i64))) v0_9.1), (68000, .arr 35 (.pair (.int .i64) (.pair (.int .i64) (.int .i64))) v0_10.1)] ?_
                   obtain rfl := Option.some.inj h
                   exact ⟨_, rfl, zL [] [] []⟩
               ·refine AW.exit ?_
                refine athen_e ?_
                obtain rfl := Option.some.inj h
                try rw [← hd37 _ rfl] at ho36
                have h := ho36
                try simp only at h
                refine athen_e ?_
                refine ablock_s ?_
                refine athen_n ?_
                exact AW.weaken (zL [] [] []) (hk_lineallaw09_DelayTurns_k1 () h)

end Go.Proofs.Ytdicomoggfhbfaa
