/-
  Made by wip/tool/dc.py out of the print of the program: contracts.
-/
import Derived.Test.YtdicomoggfhbfaaDlp
import Derived.Test.YtdicomoggfhbfaaShd
import Derived.Test.YtdicomoggfhbfaaDkc1
import Derived.Test.YtdicomoggfhbfaaDkc5
import Derived.Test.YtdicomoggfhbfaaDkc6
namespace Go.Proofs.Ytdicomoggfhbfaa
open Go.RowKit

set_option linter.unusedSimpArgs false
set_option linter.unusedVariables false
set_option linter.constructorNameAsVariable false

set_option maxRecDepth 100000
set_option maxHeartbeats 40000000

theorem hc_linealref09_AreCosts (x0 : List (List (Int × Bool))) (costs : List (List Int)) {r : Bool} (h : linealref09_AreCosts x0 costs = some r) : HC Try.prog 58 [] [.sl (.sl (.pair (.int .i64) .bool)) x0, .sl (.sl (.int .i64)) costs] [] (.bool r) := by
 unfold linealref09_AreCosts at h
 refine zH Try.func58 [.tmp 4] 45 ?_
 refine zo ?_
 refine zB [(0, .sl (.sl (.pair (.int .i64) .bool)) x0), (1, .sl (.sl (.int .i64)) costs)] [] ?_
 refine AW.seq ?_
 refine zo ?_
 refine zB [(0, .sl (.sl (.pair (.int .i64) .bool)) x0), (1, .sl (.sl (.int .i64)) costs), (13, .bool (!(decide ((costs.length : Int) = (x0.length : Int)))))] [] ?_
 refine zQ h (fun hb1 h => ?_) (fun hb1 h => ?_)
 ·refine zo ?_
  refine zB [(4, .bool false)] [] ?_
  refine zr ?_
  obtain rfl := Option.some.inj h
  exact zR [] [] []
 ·refine zk ?_
  refine AW.have1 (fun _ : Unit => linealref09_AreCosts_k1 = some r) (fun _ => ⟨fr [], hpGet [], gt⟩) (fun _ h => ?_) (fun hk_linealref09_AreCosts_k1 => ?_)
  ·as_aux_lemma =>
    unfold linealref09_AreCosts_k1 at h
    refine zo ?_
    refine zB [(4, .bool true)] [] ?_
    refine AW.ret ?_
    obtain rfl := Option.some.inj h
    exact zR [] [] []
  ·refine AW.seq ?_
   refine zo ?_
   refine zB [(0, .sl (.sl (.pair (.int .i64) .bool)) x0), (14, .sl (.sl (.int .i64)) costs), (15, .int .i64 (costs.length : Int)), (16, .int .i64 0)] [] ?_
   refine AW.block ?_
   obtain ⟨rv6, hw2, ho3⟩ := Option.bind_eq_some_iff.1 h
   refine AW.loopO (linealref09_AreCosts_b1 x0 costs) (fun st1 => ⟨fr [(0, .sl (.sl (.pair (.int .i64) .bool)) x0), (14, .sl (.sl (.int .i64)) costs), (15, .int .i64 (costs.length : Int)), (16, .int .i64 st1)], hpGet [], gt⟩) 0 hw2 (zL [] [] []) ?_
   as_aux_lemma =>
    intro st1 x5 h hd4
    unfold linealref09_AreCosts_b1 at h
    refine zo ?_
    refine zB [(0, .sl (.sl (.pair (.int .i64) .bool)) x0), (14, .sl (.sl (.int .i64)) costs), (15, .int .i64 (costs.length : Int)), (16, .int .i64 st1), (17, .bool (decide (st1 < (costs.length : Int))))] [] ?_
    refine AW.seq ?_
    refine zQ h (fun hb7 h => ?_) (fun hb7 h => ?_)
    ·refine zk ?_
     refine AW.have1 (fun _ : Unit => linealref09_AreCosts_k2 st1 = some x5) (fun _ => ⟨fr [(0, .sl (.sl (.pair (.int .i64) .bool)) x0), (14, .sl (.sl (.int .i64)) costs), (15, .int .i64 (costs.length : Int)), (16, .int .i64 st1)], hpGet [], gt⟩) (fun _ h => ?_) (fun hk_linealref09_AreCosts_k2 => ?_)
     ·as_aux_lemma =>
       unfold linealref09_AreCosts_k2 at h
       refine AW.ops ?_
       obtain ⟨c8, h⟩ := ck_some.1 h
       refine zA [(0, .sl (.sl (.pair (.int .i64) .bool)) x0), (14, .sl (.sl (.int .i64)) costs), (15, .int .i64 (costs.length : Int)), (16, .int .i64 (st1 + 1))] [] ?_
       obtain rfl := Option.some.inj h
       exact ⟨_, rfl, zL [] [] []⟩
     ·refine AW.seq ?_
      refine AW.block ?_
      refine zo ?_
      obtain ⟨c9, h⟩ := ck_some.1 h
      obtain ⟨c10, h⟩ := ck_some.1 h
      refine zB [(0, .sl (.sl (.pair (.int .i64) .bool)) x0), (5, .int .i64 st1), (6, .sl (.int .i64) (costs.getD st1.toNat [])), (14, .sl (.sl (.int .i64)) costs), (15, .int .i64 (costs.length : Int)), (16, .int .i64 st1)] [] ?_
      refine AW.seq ?_
      refine zo ?_
      obtain ⟨c11, h⟩ := ck_some.1 h
      obtain ⟨c12, h⟩ := ck_some.1 h
      refine zS 5 [(0, .sl (.sl (.pair (.int .i64) .bool)) x0), (6, .sl (.int .i64) (costs.getD st1.toNat [])), (14, .sl (.sl (.int .i64)) costs), (15, .int .i64 (costs.length : Int)), (16, .int .i64 st1), (22, .int .i64 ((costs.getD st1.toNat []).length : Int)), (25, .dp (.sl (.pair (.int .i64) .bool)) (x0.getD st1.toNat []) 0)] [] ?_
      obtain ⟨c13, h⟩ := ck_some.1 h
      refine zB [(0, .sl (.sl (.pair (.int .i64) .bool)) x0), (6, .sl (.int .i64) (costs.getD st1.toNat [])), (14, .sl (.sl (.int .i64)) costs), (15, .int .i64 (costs.length : Int)), (16, .int .i64 st1), (30, .bool (!(decide (((costs.getD st1.toNat []).length : Int) = (max (((x0.getD st1.toNat []).length : Int) - 1) 0)))))] [] ?_
      refine zQ h (fun hb14 h => ?_) (fun hb14 h => ?_)
      ·refine zo ?_
       refine zB [(4, .bool false)] [] ?_
       refine zr ?_
       refine ablock_r ?_
       refine athen_r ?_
       obtain rfl := Option.some.inj h
       try rw [← hd4 _ rfl] at ho3
       have h := ho3
       try simp only at h
       refine athen_r ?_
       refine ablock_r ?_
       refine athen_r ?_
       obtain rfl := Option.some.inj h
       exact zR [] [] []
      ·refine zk ?_
       refine zo ?_
       refine zB [(0, .sl (.sl (.pair (.int .i64) .bool)) x0), (14, .sl (.sl (.int .i64)) costs), (15, .int .i64 (costs.length : Int)), (16, .int .i64 st1), (31, .sl (.int .i64) (costs.getD st1.toNat [])), (32, .int .i64 ((costs.getD st1.toNat []).length : Int)), (33, .int .i64 0)] [] ?_
       refine AW.block ?_
       obtain ⟨rv19, hw15, ho16⟩ := Option.bind_eq_some_iff.1 h
       refine AW.loopO (linealref09_AreCosts_b2 costs st1) (fun st2 => ⟨fr [(0, .sl (.sl (.pair (.int .i64) .bool)) x0), (14, .sl (.sl (.int .i64)) costs), (15, .int .i64 (costs.length : Int)), (16, .int .i64 st1), (31, .sl (.int .i64) (costs.getD st1.toNat [])), (32, .int .i64 ((costs.getD st1.toNat []).length : Int)), (33, .int .i64 st2)], hpGet [], gt⟩) 0 hw15 (zL [] [] []) ?_
       as_aux_lemma =>
        intro st2 x18 h hd17
        unfold linealref09_AreCosts_b2 at h
        refine zo ?_
        refine zB [(0, .sl (.sl (.pair (.int .i64) .bool)) x0), (14, .sl (.sl (.int .i64)) costs), (15, .int .i64 (costs.length : Int)), (16, .int .i64 st1), (31, .sl (.int .i64) (costs.getD st1.toNat [])), (32, .int .i64 ((costs.getD st1.toNat []).length : Int)), (33, .int .i64 st2), (34, .bool (decide (st2 < ((costs.getD st1.toNat []).length : Int))))] [] ?_
        refine AW.seq ?_
        refine zQ h (fun hb20 h => ?_) (fun hb20 h => ?_)
        ·refine zk ?_
         refine AW.seq ?_
         refine AW.block ?_
         refine zo ?_
         obtain ⟨c21, h⟩ := ck_some.1 h
         obtain ⟨c22, h⟩ := ck_some.1 h
         refine zB [(0, .sl (.sl (.pair (.int .i64) .bool)) x0), (8, .int .i64 ((costs.getD st1.toNat []).getD st2.toNat 0)), (14, .sl (.sl (.int .i64)) costs), (15, .int .i64 (costs.length : Int)), (16, .int .i64 st1), (31, .sl (.int .i64) (costs.getD st1.toNat [])), (32, .int .i64 ((costs.getD st1.toNat []).length : Int)), (33, .int .i64 st2)] [] ?_
         refine zo ?_
         refine zS 3 [(0, .sl (.sl (.pair (.int .i64) .bool)) x0), (8, .int .i64 ((costs.getD st1.toNat []).getD st2.toNat 0)), (14, .sl (.sl (.int .i64)) costs), (15, .int .i64 (costs.length : Int)), (16, .int .i64 st1), (31, .sl (.int .i64) (costs.getD st1.toNat [])), (32, .int .i64 ((costs.getD st1.toNat []).length : Int)), (33, .int .i64 st2), (39, .bool (decide (((costs.getD st1.toNat []).getD st2.toNat 0) < 1)))] [] ?_
         rcases zI h with ⟨hb23, h⟩ | ⟨hb23, h⟩
         ·refine zB [(0, .sl (.sl (.pair (.int .i64) .bool)) x0), (14, .sl (.sl (.int .i64)) costs), (15, .int .i64 (costs.length : Int)), (16, .int .i64 st1), (31, .sl (.int .i64) (costs.getD st1.toNat [])), (32, .int .i64 ((costs.getD st1.toNat []).length : Int)), (33, .int .i64 st2), (42, .bool true)] [] ?_
          refine AW.cond (b := true) rfl (fun _ => ?_) (fun hb24 => by cases hb24)
          refine zo ?_
          refine zB [(4, .bool false)] [] ?_
          refine AW.ret ?_
          refine ablock_r ?_
          refine athen_r ?_
          obtain rfl := Option.some.inj h
          try rw [← hd17 _ rfl] at ho16
          have h := ho16
          try simp only at h
          refine athen_r ?_
          refine ablock_r ?_
          refine ablock_r ?_
          refine athen_r ?_
          obtain rfl := Option.some.inj h
          try rw [← hd4 _ rfl] at ho3
          have h := ho3
          try simp only at h
          refine athen_r ?_
          refine ablock_r ?_
          refine athen_r ?_
          obtain rfl := Option.some.inj h
          exact zR [] [] []
         ·refine zB [(0, .sl (.sl (.pair (.int .i64) .bool)) x0), (14, .sl (.sl (.int .i64)) costs), (15, .int .i64 (costs.length : Int)), (16, .int .i64 st1), (31, .sl (.int .i64) (costs.getD st1.toNat [])), (32, .int .i64 ((costs.getD st1.toNat []).length : Int)), (33, .int .i64 st2), (42, .bool (decide (9 < ((costs.getD st1.toNat []).getD st2.toNat 0))))] [] ?_
          refine zQ h (fun hb25 h => ?_) (fun hb25 h => ?_)
          ·refine zo ?_
           refine zB [(4, .bool false)] [] ?_
           refine AW.ret ?_
           refine ablock_r ?_
           refine athen_r ?_
           obtain rfl := Option.some.inj h
           try rw [← hd17 _ rfl] at ho16
           have h := ho16
           try simp only at h
           refine athen_r ?_
           refine ablock_r ?_
           refine ablock_r ?_
           refine athen_r ?_
           obtain rfl := Option.some.inj h
           try rw [← hd4 _ rfl] at ho3
           have h := ho3
           try simp only at h
           refine athen_r ?_
           refine ablock_r ?_
           refine athen_r ?_
           obtain rfl := Option.some.inj h
           exact zR [] [] []
          ·refine zm ?_
           refine athen_n ?_
           refine AW.ops ?_
           obtain ⟨c26, h⟩ := ck_some.1 h
           refine zA [(0, .sl (.sl (.pair (.int .i64) .bool)) x0), (14, .sl (.sl (.int .i64)) costs), (15, .int .i64 (costs.length : Int)), (16, .int .i64 st1), (31, .sl (.int .i64) (costs.getD st1.toNat [])), (32, .int .i64 ((costs.getD st1.toNat []).length : Int)), (33, .int .i64 (st2 + 1))] [] ?_
           obtain rfl := Option.some.inj h
           exact ⟨_, rfl, zL [] [] []⟩
        ·refine AW.exit ?_
         refine athen_e ?_
         obtain rfl := Option.some.inj h
         try rw [← hd17 _ rfl] at ho16
         have h := ho16
         try simp only at h
         refine athen_e ?_
         refine ablock_s ?_
         refine ablock_n ?_
         refine athen_n ?_
         exact AW.weaken (zL [] [] []) (hk_linealref09_AreCosts_k2 () h)
    ·refine AW.exit ?_
     refine athen_e ?_
     obtain rfl := Option.some.inj h
     try rw [← hd4 _ rfl] at ho3
     have h := ho3
     try simp only at h
     refine athen_e ?_
     refine ablock_s ?_
     refine athen_n ?_
     exact AW.weaken (zL [] [] []) (hk_linealref09_AreCosts_k1 () h)

theorem hc_delay_offerOf (x0 : List (List (Int × Bool))) (costs : List (List Int)) {r : (List (List (Int × Bool))) × (List (Int × Int × Int)) × (List (List Int)) × Int} (h : delay_offerOf x0 costs = some r) : HC Try.prog 90 [] [.sl (.sl (.pair (.int .i64) .bool)) x0, .sl (.sl (.int .i64)) costs] [(2000, .arr 35 (.pair (.int .i64) (.pair (.int .i64) (.int .i64))) r.2.1)] (.tup [.agg [.sl (.sl (.pair (.int .i64) .bool)) r.1, .own 2000, .sl (.sl (.int .i64)) r.2.2.1], .int .i64 r.2.2.2]) := by
 unfold delay_offerOf at h
 refine zH Try.func90 [.cell 4 103, .tmp 5] 27 ?_
 refine zo ?_
 refine zB [(0, .sl (.sl (.pair (.int .i64) .bool)) x0), (1, .sl (.sl (.int .i64)) costs), (4, .bp 4 0)] [(4, .box 103 [.cv (.slice none 0 0), .cv (.slice none 0 0), .cv (.slice none 0 0)])] ?_
 refine zo ?_
 refine zS 1 [(1, .sl (.sl (.int .i64)) costs), (4, .bp 4 0), (9, .sl (.sl (.pair (.int .i64) .bool)) x0)] [(4, .box 103 [.cv (.slice none 0 0), .cv (.slice none 0 0), .cv (.slice none 0 0)])] ?_
 obtain ⟨v0, hv1, h⟩ := Option.bind_eq_some_iff.1 h
 refine zC [] [] (hc_delay_accessesOf x0 hv1) [(1, .sl (.sl (.int .i64)) costs), (4, .bp 4 0), (10, .tup [.sl (.sl (.pair (.int .i64) .bool)) v0.1, .int .i64 v0.2])] [(4, .box 103 [.cv (.slice none 0 0), .cv (.slice none 0 0), .cv (.slice none 0 0)])] ?_
 refine zB [(1, .sl (.sl (.int .i64)) costs), (4, .bp 4 0), (6, .sl (.sl (.pair (.int .i64) .bool)) v0.1), (7, .int .i64 v0.2)] [(4, .box 103 [.cv (.slice none 0 0), .cv (.slice none 0 0), .cv (.slice none 0 0)])] ?_
 refine AW.seq ?_
 refine zo ?_
 refine zB [(1, .sl (.sl (.int .i64)) costs), (4, .bp 4 0), (6, .sl (.sl (.pair (.int .i64) .bool)) v0.1), (7, .int .i64 v0.2), (14, .bool (!(decide (v0.2 = 0))))] [(4, .box 103 [.cv (.slice none 0 0), .cv (.slice none 0 0), .cv (.slice none 0 0)])] ?_
 refine zQ h (fun hb2 h => ?_) (fun hb2 h => ?_)
 ·refine zo ?_
  refine zB [(4, .bp 4 0), (5, .int .i64 v0.2)] [(4, .box 103 [.cv (.slice none 0 0), .cv (.slice none 0 0), .cv (.slice none 0 0)])] ?_
  refine zr ?_
  obtain rfl := Option.some.inj h
  exact zR [] [2000] []
 ·refine zk ?_
  refine AW.seq ?_
  refine zo ?_
  refine zS 2 [(1, .sl (.sl (.int .i64)) costs), (4, .bp 4 0), (6, .sl (.sl (.pair (.int .i64) .bool)) v0.1), (17, .sl (.sl (.pair (.int .i64) .bool)) v0.1), (18, .sl (.sl (.int .i64)) costs)] [(4, .box 103 [.cv (.slice none 0 0), .cv (.slice none 0 0), .cv (.slice none 0 0)])] ?_
  obtain ⟨v0_2, hv3, h⟩ := Option.bind_eq_some_iff.1 h
  refine zC [] [] (hc_delay_accesses_areCosts v0.1 costs hv3) [(1, .sl (.sl (.int .i64)) costs), (4, .bp 4 0), (6, .sl (.sl (.pair (.int .i64) .bool)) v0.1), (19, .bool v0_2)] [(4, .box 103 [.cv (.slice none 0 0), .cv (.slice none 0 0), .cv (.slice none 0 0)])] ?_
  refine zB [(1, .sl (.sl (.int .i64)) costs), (4, .bp 4 0), (6, .sl (.sl (.pair (.int .i64) .bool)) v0.1), (20, .bool (!v0_2))] [(4, .box 103 [.cv (.slice none 0 0), .cv (.slice none 0 0), .cv (.slice none 0 0)])] ?_
  refine zQ h (fun hb4 h => ?_) (fun hb4 h => ?_)
  ·refine zo ?_
   refine zB [(4, .bp 4 0), (5, .int .i64 2)] [(4, .box 103 [.cv (.slice none 0 0), .cv (.slice none 0 0), .cv (.slice none 0 0)])] ?_
   refine zr ?_
   obtain rfl := Option.some.inj h
   exact zR [] [2000] []
  ·refine zk ?_
   refine zo ?_
   refine zS 2 [(1, .sl (.sl (.int .i64)) costs), (4, .bp 4 0), (22, .sl (.sl (.pair (.int .i64) .bool)) v0.1), (23, .sl (.sl (.pair (.int .i64) .bool)) v0.1)] [(4, .box 103 [.cv (.slice none 0 0), .cv (.slice none 0 0), .cv (.slice none 0 0)])] ?_
   obtain ⟨v0_3, hv5, h⟩ := Option.bind_eq_some_iff.1 h
   refine zC [] [] (hc_delay_accesses_onCircles v0.1 hv5) [(1, .sl (.sl (.int .i64)) costs), (4, .bp 4 0), (22, .sl (.sl (.pair (.int .i64) .bool)) v0.1), (24, .own 34000)] [(4, .box 103 [.cv (.slice none 0 0), .cv (.slice none 0 0), .cv (.slice none 0 0)]), (34000, .arr 35 (.pair (.int .i64) (.pair (.int .i64) (.int .i64))) v0_3)] ?_
   refine zB [(4, .bp 4 0), (5, .int .i64 0)] [(4, .box 103 [.sl (.sl (.pair (.int .i64) .bool)) v0.1, .own 34000, .sl (.sl (.int .i64)) costs]), (34000, .arr 35 (.pair (.int .i64) (.pair (.int .i64) (.int .i64))) v0_3)] ?_
   refine AW.ret ?_
   obtain rfl := Option.some.inj h
   exact zR [] [] [(2000, 34000)]

theorem hc_slices_Grow_2 (n : Int) {r : Unit} (h : slices_Grow_2 n = some r) : HC Try.prog 151 [] [.cv (.slice none 0 0), .int .i64 n] [(2000, .arr 110 (.pair (.int .i64) (.int .i64)) [])] (.own 2000) := by
 unfold slices_Grow_2 at h
 refine zH Try.func151 [.tmp 4] 27 ?_
 refine zo ?_
 refine zB [(0, .cv (.slice none 0 0)), (1, .int .i64 n)] [] ?_
 refine AW.seq ?_
 refine zo ?_
 refine zB [(0, .cv (.slice none 0 0)), (1, .int .i64 n), (6, .bool (decide (n < 0)))] [] ?_
 refine zQ h (fun hb1 h => ?_) (fun hb1 h => ?_)
 ·refine AW.ops ?_
  cases h
 ·refine zk ?_
  refine AW.seq ?_
  refine zo ?_
  refine zS 2 [(0, .cv (.slice none 0 0)), (8, .int .i64 n), (9, .cv (.slice none 0 0))] [] ?_
  refine AO.capNil tab_ok (by decide) rfl rfl rfl rfl rfl tab_42 rfl rfl ?_
  refine zT [(0, .cv (.slice none 0 0)), (8, .int .i64 n), (10, .int .i64 0)] [] gt ?_
  obtain ⟨c2, h⟩ := ck_some.1 h
  obtain ⟨c3, h⟩ := ck_some.1 h
  refine zB [(0, .cv (.slice none 0 0)), (1, .int .i64 (n - (0 - 0)))] [] ?_
  refine zo ?_
  refine zB [(0, .cv (.slice none 0 0)), (1, .int .i64 (n - (0 - 0))), (16, .bool (decide (0 < (n - (0 - 0)))))] [] ?_
  refine zQ h (fun hb4 h => ?_) (fun hb4 h => ?_)
  ·refine AW.ops ?_
   refine zS 2 [(0, .cv (.slice none 0 0)), (1, .int .i64 (n - (0 - 0))), (17, .cv (.slice none 0 0)), (18, .cv (.slice none 0 0))] [] ?_
   refine AO.capNil tab_ok (by decide) rfl rfl rfl rfl rfl tab_42 rfl rfl ?_
   refine zT [(0, .cv (.slice none 0 0)), (1, .int .i64 (n - (0 - 0))), (17, .cv (.slice none 0 0)), (19, .int .i64 0)] [] gt ?_
   refine AO.sliceNil tab_ok (by decide) rfl rfl tab_42 rfl tab_110 rfl rfl ?_
   refine zT [(0, .cv (.slice none 0 0)), (1, .int .i64 (n - (0 - 0))), (20, .cv (.slice none 0 0))] [] gt ?_
   refine zS 1 [(0, .cv (.slice none 0 0)), (20, .cv (.slice none 0 0)), (21, .int .i64 (n - (0 - 0)))] [] ?_
   obtain ⟨c5, h⟩ := ck_some.1 h
   obtain ⟨c6, h⟩ := ck_some.1 h
   obtain ⟨c7, h⟩ := ck_some.1 h
   refine AO.appendZeros tab_ok (by decide) (by decide) rfl rfl rfl rfl rfl tab_42 rfl tab_110 rfl tab_3 rfl rfl rfl (by first | assumption | omega | (simp only [go_sem, hb1, hb4]) <;> (with_reducible and_intros) <;> first | assumption | rfl | omega | (unfold maxLen; omega)) (by first | assumption | omega | (simp only [go_sem, hb1, hb4]) <;> (with_reducible and_intros) <;> first | assumption | rfl | omega | (unfold maxLen; omega)) (by first | assumption | omega | (simp only [go_sem, hb1, hb4]) <;> (with_reducible and_intros) <;> first | assumption | rfl | omega | (unfold maxLen; omega)) ?_
   refine zT [(0, .cv (.slice none 0 0)), (22, .own 22)] [(22, .arr 110 (.pair (.int .i64) (.int .i64)) (List.replicate (n - (0 - 0)).toNat ((0, 0) : Int × Int)))] gt ?_
   refine zS 2 [(22, .own 22), (24, .int .i64 0)] [(22, .arr 110 (.pair (.int .i64) (.int .i64)) (List.replicate (n - (0 - 0)).toNat ((0, 0) : Int × Int)))] ?_
   obtain ⟨c8, h⟩ := ck_some.1 h
   obtain ⟨c9, h⟩ := ck_some.1 h
   refine AO.sliceOwn tab_ok (by decide) (by decide) rfl rfl tab_42 rfl tab_110 rfl rfl rfl rfl (by first | assumption | omega | (simp only [go_sem, hb1, hb4]) <;> (with_reducible and_intros) <;> first | assumption | rfl | omega | (unfold maxLen; omega)) (by first | assumption | omega | (simp only [go_sem, hb1, hb4]) <;> (with_reducible and_intros) <;> first | assumption | rfl | omega | (unfold maxLen; omega)) ?_
   refine zT [(25, .own 25)] [(25, .arr 110 (.pair (.int .i64) (.int .i64)) [])] gt ?_
   refine zB [(0, .own 25)] [(25, .arr 110 (.pair (.int .i64) (.int .i64)) [])] ?_
   refine zo ?_
   refine zB [(4, .own 25)] [(25, .arr 110 (.pair (.int .i64) (.int .i64)) [])] ?_
   refine AW.ret ?_
   obtain rfl := Option.some.inj h
   exact zR [] [] [(2000, 25)]
  ·refine zk ?_
   refine zo ?_
   refine zB [(4, .cv (.slice none 0 0))] [] ?_
   refine AW.ret ?_
   obtain rfl := Option.some.inj h
   exact zR [] [2000] []

theorem hc_slices_Concat_2 (slices : List (List (Int × Int))) {r : (List (Int × Int))} (h : slices_Concat_2 slices = some r) : HC Try.prog 148 [] [.sl (.sl (.pair (.int .i64) (.int .i64))) slices] [(2000, .arr 110 (.pair (.int .i64) (.int .i64)) r)] (.own 2000) := by
 unfold slices_Concat_2 at h
 refine zH Try.func148 [.tmp 2] 36 ?_
 refine zo ?_
 refine zB [(0, .sl (.sl (.pair (.int .i64) (.int .i64))) slices)] [] ?_
 refine zo ?_
 refine zB [(0, .sl (.sl (.pair (.int .i64) (.int .i64))) slices), (3, .int .i64 0)] [] ?_
 refine AW.have1 (fun b1 : Int => slices_Concat_2_k1 slices b1 = some r) (fun b1 => ⟨fr [(0, .sl (.sl (.pair (.int .i64) (.int .i64))) slices), (3, .int .i64 b1)], hpGet [], gt⟩) (fun b1 h => ?_) (fun hk_slices_Concat_2_k1 => ?_)
 ·as_aux_lemma =>
   unfold slices_Concat_2_k1 at h
   refine zo ?_
   refine zS 1 [(0, .sl (.sl (.pair (.int .i64) (.int .i64))) slices), (23, .int .i64 b1)] [] ?_
   obtain ⟨v0, hv1, h⟩ := Option.bind_eq_some_iff.1 h
   refine zC [] [] (hc_slices_Grow_2 b1 hv1) [(0, .sl (.sl (.pair (.int .i64) (.int .i64))) slices), (24, .own 34000)] [(34000, .arr 110 (.pair (.int .i64) (.int .i64)) [])] ?_
   refine zB [(0, .sl (.sl (.pair (.int .i64) (.int .i64))) slices), (6, .own 34000)] [(34000, .arr 110 (.pair (.int .i64) (.int .i64)) [])] ?_
   refine AW.have1 (fun b2 : (List (Int × Int)) => slices_Concat_2_k2 b2 = some r) (fun b2 => ⟨fr [(6, .own 34000)], hpGet [(34000, .arr 110 (.pair (.int .i64) (.int .i64)) b2)], gt⟩) (fun b2 h => ?_) (fun hk_slices_Concat_2_k2 => ?_)
   ·as_aux_lemma =>
     unfold slices_Concat_2_k2 at h
     refine zo ?_
     refine zB [(2, .own 34000)] [(34000, .arr 110 (.pair (.int .i64) (.int .i64)) b2)] ?_
     refine AW.ret ?_
     obtain rfl := Option.some.inj h
     exact zR [] [] [(2000, 34000)]
   ·refine AW.seq ?_
    refine zo ?_
    refine zB [(6, .own 34000), (25, .sl (.sl (.pair (.int .i64) (.int .i64))) slices), (26, .int .i64 (slices.length : Int)), (27, .int .i64 0)] [(34000, .arr 110 (.pair (.int .i64) (.int .i64)) [])] ?_
    refine AW.block ?_
    obtain ⟨rv6, hw2, ho3⟩ := Option.bind_eq_some_iff.1 h
    refine AW.loopO (slices_Concat_2_b2 slices) (fun st2 => ⟨fr [(6, .own 34000), (25, .sl (.sl (.pair (.int .i64) (.int .i64))) slices), (26, .int .i64 (slices.length : Int)), (27, .int .i64 st2.2)], hpGet [(34000, .arr 110 (.pair (.int .i64) (.int .i64)) st2.1)], gt⟩) ([], 0) hw2 (zL [] [] []) ?_
    as_aux_lemma =>
     intro st2 x5 h hd4
     unfold slices_Concat_2_b2 at h
     refine zo ?_
     refine zB [(6, .own 34000), (25, .sl (.sl (.pair (.int .i64) (.int .i64))) slices), (26, .int .i64 (slices.length : Int)), (27, .int .i64 st2.2), (28, .bool (decide (st2.2 < (slices.length : Int))))] [(34000, .arr 110 (.pair (.int .i64) (.int .i64)) st2.1)] ?_
     refine AW.seq ?_
     refine zQ h (fun hb7 h => ?_) (fun hb7 h => ?_)
     ·refine zk ?_
      refine AW.seq ?_
      refine AW.block ?_
      refine zo ?_
      obtain ⟨c8, h⟩ := ck_some.1 h
      obtain ⟨c9, h⟩ := ck_some.1 h
      refine zB [(6, .own 34000), (8, .sl (.pair (.int .i64) (.int .i64)) (slices.getD st2.2.toNat [])), (25, .sl (.sl (.pair (.int .i64) (.int .i64))) slices), (26, .int .i64 (slices.length : Int)), (27, .int .i64 st2.2)] [(34000, .arr 110 (.pair (.int .i64) (.int .i64)) st2.1)] ?_
      refine AW.ops ?_
      obtain ⟨c10, h⟩ := ck_some.1 h
      refine zA [(6, .own 33), (25, .sl (.sl (.pair (.int .i64) (.int .i64))) slices), (26, .int .i64 (slices.length : Int)), (27, .int .i64 st2.2)] [(33, .arr 110 (.pair (.int .i64) (.int .i64)) (st2.1 ++ (slices.getD st2.2.toNat [])))] ?_
      refine ablock_n ?_
      refine athen_n ?_
      refine AW.ops ?_
      obtain ⟨c11, h⟩ := ck_some.1 h
      refine zA [(6, .own 33), (25, .sl (.sl (.pair (.int .i64) (.int .i64))) slices), (26, .int .i64 (slices.length : Int)), (27, .int .i64 (st2.2 + 1))] [(33, .arr 110 (.pair (.int .i64) (.int .i64)) (st2.1 ++ (slices.getD st2.2.toNat [])))] ?_
      obtain rfl := Option.some.inj h
      exact ⟨_, rfl, zL [] [] [(34000, 33)]⟩
     ·refine AW.exit ?_
      refine athen_e ?_
      obtain rfl := Option.some.inj h
      rw [← hd4 _ rfl] at ho3
      have h := ho3
      refine athen_e ?_
      refine ablock_s ?_
      refine athen_n ?_
      exact AW.weaken (zL [] [] []) (hk_slices_Concat_2_k2 _ h)
 ·refine AW.seq ?_
  refine zo ?_
  refine zB [(0, .sl (.sl (.pair (.int .i64) (.int .i64))) slices), (3, .int .i64 0), (9, .sl (.sl (.pair (.int .i64) (.int .i64))) slices), (10, .int .i64 (slices.length : Int)), (11, .int .i64 0)] [] ?_
  refine AW.block ?_
  obtain ⟨rv16, hw12, ho13⟩ := Option.bind_eq_some_iff.1 h
  refine AW.loopO (slices_Concat_2_b1 slices) (fun st1 => ⟨fr [(0, .sl (.sl (.pair (.int .i64) (.int .i64))) slices), (3, .int .i64 st1.1), (9, .sl (.sl (.pair (.int .i64) (.int .i64))) slices), (10, .int .i64 (slices.length : Int)), (11, .int .i64 st1.2)], hpGet [], gt⟩) (0, 0) hw12 (zL [] [] []) ?_
  as_aux_lemma =>
   intro st1 x15 h hd14
   unfold slices_Concat_2_b1 at h
   refine zo ?_
   refine zB [(0, .sl (.sl (.pair (.int .i64) (.int .i64))) slices), (3, .int .i64 st1.1), (9, .sl (.sl (.pair (.int .i64) (.int .i64))) slices), (10, .int .i64 (slices.length : Int)), (11, .int .i64 st1.2), (12, .bool (decide (st1.2 < (slices.length : Int))))] [] ?_
   refine AW.seq ?_
   refine zQ h (fun hb17 h => ?_) (fun hb17 h => ?_)
   ·refine zk ?_
    refine AW.seq ?_
    refine AW.block ?_
    refine zo ?_
    obtain ⟨c18, h⟩ := ck_some.1 h
    obtain ⟨c19, h⟩ := ck_some.1 h
    refine zB [(0, .sl (.sl (.pair (.int .i64) (.int .i64))) slices), (3, .int .i64 st1.1), (5, .sl (.pair (.int .i64) (.int .i64)) (slices.getD st1.2.toNat [])), (9, .sl (.sl (.pair (.int .i64) (.int .i64))) slices), (10, .int .i64 (slices.length : Int)), (11, .int .i64 st1.2)] [] ?_
    refine zo ?_
    obtain ⟨c20, h⟩ := ck_some.1 h
    refine zB [(0, .sl (.sl (.pair (.int .i64) (.int .i64))) slices), (3, .int .i64 (st1.1 + ((slices.getD st1.2.toNat []).length : Int))), (9, .sl (.sl (.pair (.int .i64) (.int .i64))) slices), (10, .int .i64 (slices.length : Int)), (11, .int .i64 st1.2)] [] ?_
    refine zo ?_
    refine zB [(0, .sl (.sl (.pair (.int .i64) (.int .i64))) slices), (3, .int .i64 (st1.1 + ((slices.getD st1.2.toNat []).length : Int))), (9, .sl (.sl (.pair (.int .i64) (.int .i64))) slices), (10, .int .i64 (slices.length : Int)), (11, .int .i64 st1.2), (20, .bool (decide ((st1.1 + ((slices.getD st1.2.toNat []).length : Int)) < 0)))] [] ?_
    refine zQ h (fun hb21 h => ?_) (fun hb21 h => ?_)
    ·refine AW.ops ?_
     cases h
    ·refine zm ?_
     refine athen_n ?_
     refine AW.ops ?_
     obtain ⟨c22, h⟩ := ck_some.1 h
     refine zA [(0, .sl (.sl (.pair (.int .i64) (.int .i64))) slices), (3, .int .i64 (st1.1 + ((slices.getD st1.2.toNat []).length : Int))), (9, .sl (.sl (.pair (.int .i64) (.int .i64))) slices), (10, .int .i64 (slices.length : Int)), (11, .int .i64 (st1.2 + 1))] [] ?_
     obtain rfl := Option.some.inj h
     exact ⟨_, rfl, zL [] [] []⟩
   ·refine AW.exit ?_
    refine athen_e ?_
    obtain rfl := Option.some.inj h
    rw [← hd14 _ rfl] at ho13
    have h := ho13
    refine athen_e ?_
    refine ablock_s ?_
    refine athen_n ?_
    exact AW.weaken (zL [] [] []) (hk_slices_Concat_2_k1 _ h)

theorem hc_delay_choicesF (slf : (List (Int × Int)) → Option ((List (List (Int × Int))))) (hc_slf : ∀ (fences : List (Int × Int)) {r : (List (List (Int × Int)))}, slf fences = some r → HC Try.prog 126 [] [.sl (.pair (.int .i64) (.int .i64)) fences] [(2000, .arr 42 (.sl (.pair (.int .i64) (.int .i64))) r)] (.own 2000)) (fences : List (Int × Int)) {r : (List (List (Int × Int)))} (h : delay_choicesF slf fences = some r) : HC Try.prog 126 [] [.sl (.pair (.int .i64) (.int .i64)) fences] [(2000, .arr 42 (.sl (.pair (.int .i64) (.int .i64))) r)] (.own 2000) := by
 unfold delay_choicesF at h
 refine zH Try.func126 [.tmp 2] 32 ?_
 refine zo ?_
 refine zB [(0, .sl (.pair (.int .i64) (.int .i64)) fences)] [] ?_
 refine AW.seq ?_
 refine zo ?_
 refine zB [(0, .sl (.pair (.int .i64) (.int .i64)) fences), (9, .bool (decide ((fences.length : Int) = 0)))] [] ?_
 refine zQ h (fun hb1 h => ?_) (fun hb1 h => ?_)
 ·refine zo ?_
  refine zB [(2, .own 10)] [(10, .arr 42 (.sl (.pair (.int .i64) (.int .i64))) [[]])] ?_
  refine zr ?_
  obtain rfl := Option.some.inj h
  exact zR [] [] [(2000, 10)]
 ·refine zk ?_
  refine zo ?_
  obtain ⟨c2, h⟩ := ck_some.1 h
  refine zS 2 [(0, .sl (.pair (.int .i64) (.int .i64)) fences), (12, .sl (.pair (.int .i64) (.int .i64)) (fences.drop 1))] [] ?_
  obtain ⟨v0, hv3, h⟩ := Option.bind_eq_some_iff.1 h
  refine zC [] [] (hc_slf (fences.drop 1) hv3) [(0, .sl (.pair (.int .i64) (.int .i64)) fences), (13, .own 23000)] [(23000, .arr 42 (.sl (.pair (.int .i64) (.int .i64))) v0)] ?_
  refine zB [(0, .sl (.pair (.int .i64) (.int .i64)) fences), (3, .own 23000)] [(23000, .arr 42 (.sl (.pair (.int .i64) (.int .i64))) v0)] ?_
  refine zo ?_
  refine zB [(0, .sl (.pair (.int .i64) (.int .i64)) fences), (3, .own 23000), (4, .cv (.slice none 0 0))] [(23000, .arr 42 (.sl (.pair (.int .i64) (.int .i64))) v0)] ?_
  refine AW.have1 (fun b1 : (List (List (Int × Int))) => delay_choices_k1 v0 b1 = some r) (fun b1 => ⟨fr [(3, .own 23000), (4, .own 27)], hpGet [(27, .arr 42 (.sl (.pair (.int .i64) (.int .i64))) b1), (23000, .arr 42 (.sl (.pair (.int .i64) (.int .i64))) v0)], gt⟩) (fun b1 h => ?_) (fun hk_delay_choices_k1 => ?_)
  ·as_aux_lemma =>
    unfold delay_choices_k1 at h
    refine zo ?_
    obtain ⟨c4, h⟩ := ck_some.1 h
    refine zB [(2, .own 31)] [(31, .arr 42 (.sl (.pair (.int .i64) (.int .i64))) (b1 ++ v0))] ?_
    refine AW.ret ?_
    obtain rfl := Option.some.inj h
    exact zR [] [] [(2000, 31)]
  ·refine AW.seq ?_
   refine zo ?_
   refine zB [(0, .sl (.pair (.int .i64) (.int .i64)) fences), (3, .own 23000), (4, .cv (.slice none 0 0)), (14, .own 23000), (15, .int .i64 (v0.length : Int)), (16, .int .i64 0)] [(23000, .arr 42 (.sl (.pair (.int .i64) (.int .i64))) v0)] ?_
   refine AW.block ?_
   obtain ⟨rv9, hw5, ho6⟩ := Option.bind_eq_some_iff.1 h
   refine AW.loopO (delay_choices_b1 fences v0) (fun st1 => ⟨fr [(0, .sl (.pair (.int .i64) (.int .i64)) fences), (3, .own 23000), (4, .own 27), (14, .own 23000), (15, .int .i64 (v0.length : Int)), (16, .int .i64 st1.2)], hpGet [(27, .arr 42 (.sl (.pair (.int .i64) (.int .i64))) st1.1), (23000, .arr 42 (.sl (.pair (.int .i64) (.int .i64))) v0)], gt⟩) ([], 0) hw5 (zL [] [27] []) ?_
   as_aux_lemma =>
    intro st1 x8 h hd7
    unfold delay_choices_b1 at h
    refine zo ?_
    refine zB [(0, .sl (.pair (.int .i64) (.int .i64)) fences), (3, .own 23000), (4, .own 27), (14, .own 23000), (15, .int .i64 (v0.length : Int)), (16, .int .i64 st1.2), (17, .bool (decide (st1.2 < (v0.length : Int))))] [(27, .arr 42 (.sl (.pair (.int .i64) (.int .i64))) st1.1), (23000, .arr 42 (.sl (.pair (.int .i64) (.int .i64))) v0)] ?_
    refine AW.seq ?_
    refine zQ h (fun hb10 h => ?_) (fun hb10 h => ?_)
    ·refine zk ?_
     refine AW.seq ?_
     refine AW.block ?_
     refine zo ?_
     obtain ⟨c11, h⟩ := ck_some.1 h
     obtain ⟨c12, h⟩ := ck_some.1 h
     refine zB [(0, .sl (.pair (.int .i64) (.int .i64)) fences), (3, .own 23000), (4, .own 27), (6, .sl (.pair (.int .i64) (.int .i64)) (v0.getD st1.2.toNat [])), (14, .own 23000), (15, .int .i64 (v0.length : Int)), (16, .int .i64 st1.2)] [(27, .arr 42 (.sl (.pair (.int .i64) (.int .i64))) st1.1), (23000, .arr 42 (.sl (.pair (.int .i64) (.int .i64))) v0)] ?_
     refine AW.ops ?_
     obtain ⟨c13, h⟩ := ck_some.1 h
     refine zS 5 [(0, .sl (.pair (.int .i64) (.int .i64)) fences), (3, .own 23000), (14, .own 23000), (15, .int .i64 (v0.length : Int)), (16, .int .i64 st1.2), (20, .own 27), (24, .own 24)] [(24, .arr 42 (.sl (.pair (.int .i64) (.int .i64))) [(fences.take 1), (v0.getD st1.2.toNat [])]), (27, .arr 42 (.sl (.pair (.int .i64) (.int .i64))) st1.1), (23000, .arr 42 (.sl (.pair (.int .i64) (.int .i64))) v0)] ?_
     obtain ⟨v0_2, hv14, h⟩ := Option.bind_eq_some_iff.1 h
     refine zC [24] [] (hc_slices_Concat_2 [(fences.take 1), (v0.getD st1.2.toNat [])] hv14) [(0, .sl (.pair (.int .i64) (.int .i64)) fences), (3, .own 23000), (14, .own 23000), (15, .int .i64 (v0.length : Int)), (16, .int .i64 st1.2), (20, .own 27), (25, .own 35000)] [(27, .arr 42 (.sl (.pair (.int .i64) (.int .i64))) st1.1), (23000, .arr 42 (.sl (.pair (.int .i64) (.int .i64))) v0), (35000, .arr 110 (.pair (.int .i64) (.int .i64)) v0_2)] ?_
     obtain ⟨c15, h⟩ := ck_some.1 h
     refine zA [(0, .sl (.pair (.int .i64) (.int .i64)) fences), (3, .own 23000), (4, .own 27), (14, .own 23000), (15, .int .i64 (v0.length : Int)), (16, .int .i64 st1.2)] [(27, .arr 42 (.sl (.pair (.int .i64) (.int .i64))) (st1.1 ++ [v0_2])), (23000, .arr 42 (.sl (.pair (.int .i64) (.int .i64))) v0)] ?_
     refine ablock_n ?_
     refine athen_n ?_
     refine AW.ops ?_
     obtain ⟨c16, h⟩ := ck_some.1 h
     refine zA [(0, .sl (.pair (.int .i64) (.int .i64)) fences), (3, .own 23000), (4, .own 27), (14, .own 23000), (15, .int .i64 (v0.length : Int)), (16, .int .i64 (st1.2 + 1))] [(27, .arr 42 (.sl (.pair (.int .i64) (.int .i64))) (st1.1 ++ [v0_2])), (23000, .arr 42 (.sl (.pair (.int .i64) (.int .i64))) v0)] ?_
     obtain rfl := Option.some.inj h
     exact ⟨_, rfl, zL [] [] []⟩
    ·refine AW.exit ?_
     refine athen_e ?_
     obtain rfl := Option.some.inj h
     rw [← hd7 _ rfl] at ho6
     have h := ho6
     refine athen_e ?_
     refine ablock_s ?_
     refine athen_n ?_
     exact AW.weaken (zL [] [] []) (hk_delay_choices_k1 _ h)

theorem hc_delay_choices : ∀ (n : Nat) (fences : List (Int × Int)) {r : (List (List (Int × Int)))}, delay_choices n fences = some r → HC Try.prog 126 [] [.sl (.pair (.int .i64) (.int .i64)) fences] [(2000, .arr 42 (.sl (.pair (.int .i64) (.int .i64))) r)] (.own 2000) := by
 intro n
 induction n with
 | zero => intro fences r h; cases h
 | succ n ih => intro fences r h; exact hc_delay_choicesF (delay_choices n) ih fences h

theorem hc_delay_offer_cheapest_1 (list : List (Int × Int)) (a1 : (List (List (Int × Bool))) × (List (Int × Int × Int)) × (List (List Int))) {r : Bool} (h : delay_offer_cheapest_1 list a1 = some r) : HC Try.prog 128 [(1000, .box 103 [.sl (.sl (.pair (.int .i64) .bool)) a1.1, .sl (.pair (.int .i64) (.pair (.int .i64) (.int .i64))) a1.2.1, .sl (.sl (.int .i64)) a1.2.2])] [.sl (.pair (.int .i64) (.int .i64)) list, .bp 1000 0] [(1000, .box 103 [.sl (.sl (.pair (.int .i64) .bool)) a1.1, .sl (.pair (.int .i64) (.pair (.int .i64) (.int .i64))) a1.2.1, .sl (.sl (.int .i64)) a1.2.2])] (.bool r) := by
 unfold delay_offer_cheapest_1 at h
 refine zH Try.func128 [.tmp 3] 9 ?_
 refine zo ?_
 refine zB [(0, .sl (.pair (.int .i64) (.int .i64)) list), (1, .bp 1000 0)] [(1000, .box 103 [.sl (.sl (.pair (.int .i64) .bool)) a1.1, .sl (.pair (.int .i64) (.pair (.int .i64) (.int .i64))) a1.2.1, .sl (.sl (.int .i64)) a1.2.2])] ?_
 refine zo ?_
 refine zS 3 [(4, .sl (.pair (.int .i64) (.int .i64)) list), (6, .sl (.pair (.int .i64) (.pair (.int .i64) (.int .i64))) a1.2.1)] [(1000, .box 103 [.sl (.sl (.pair (.int .i64) .bool)) a1.1, .sl (.pair (.int .i64) (.pair (.int .i64) (.int .i64))) a1.2.1, .sl (.sl (.int .i64)) a1.2.2])] ?_
 obtain ⟨v0, hv1, h⟩ := Option.bind_eq_some_iff.1 h
 refine zC [] [] (hc_delay_holdAll list a1.2.1 hv1) [(7, .bool v0)] [(1000, .box 103 [.sl (.sl (.pair (.int .i64) .bool)) a1.1, .sl (.pair (.int .i64) (.pair (.int .i64) (.int .i64))) a1.2.1, .sl (.sl (.int .i64)) a1.2.2])] ?_
 refine zB [(3, .bool (!v0))] [(1000, .box 103 [.sl (.sl (.pair (.int .i64) .bool)) a1.1, .sl (.pair (.int .i64) (.pair (.int .i64) (.int .i64))) a1.2.1, .sl (.sl (.int .i64)) a1.2.2])] ?_
 refine AW.ret ?_
 obtain rfl := Option.some.inj h
 exact zR [] [] []

theorem hc_slices_IndexFunc_11 (s : List (List (Int × Int))) (c0 : (List (List (Int × Bool))) × (List (Int × Int × Int)) × (List (List Int))) {r : Int} (h : slices_IndexFunc_11 s c0 = some r) : HC Try.prog 147 [(1000, .arr 42 (.sl (.pair (.int .i64) (.int .i64))) s), (1001, .box 103 [.sl (.sl (.pair (.int .i64) .bool)) c0.1, .sl (.pair (.int .i64) (.pair (.int .i64) (.int .i64))) c0.2.1, .sl (.sl (.int .i64)) c0.2.2])] [.own 1000, .fn (.func 128) [] [.bp 1001 0]] [(1000, .arr 42 (.sl (.pair (.int .i64) (.int .i64))) s), (1001, .box 103 [.sl (.sl (.pair (.int .i64) .bool)) c0.1, .sl (.pair (.int .i64) (.pair (.int .i64) (.int .i64))) c0.2.1, .sl (.sl (.int .i64)) c0.2.2])] (.int .i64 r) := by
 unfold slices_IndexFunc_11 at h
 refine zH Try.func147 [.tmp 4] 19 ?_
 refine zo ?_
 refine zB [(0, .own 1000), (1, .fn (.func 128) [] [.bp 1001 0])] [(1000, .arr 42 (.sl (.pair (.int .i64) (.int .i64))) s), (1001, .box 103 [.sl (.sl (.pair (.int .i64) .bool)) c0.1, .sl (.pair (.int .i64) (.pair (.int .i64) (.int .i64))) c0.2.1, .sl (.sl (.int .i64)) c0.2.2])] ?_
 refine AW.have1 (fun _ : Unit => slices_IndexFunc_11_k1 = some r) (fun _ => ⟨fr [], hpGet [(1000, .arr 42 (.sl (.pair (.int .i64) (.int .i64))) s), (1001, .box 103 [.sl (.sl (.pair (.int .i64) .bool)) c0.1, .sl (.pair (.int .i64) (.pair (.int .i64) (.int .i64))) c0.2.1, .sl (.sl (.int .i64)) c0.2.2])], gt⟩) (fun _ h => ?_) (fun hk_slices_IndexFunc_11_k1 => ?_)
 ·as_aux_lemma =>
   unfold slices_IndexFunc_11_k1 at h
   refine zo ?_
   refine zB [(4, .int .i64 (-1))] [(1000, .arr 42 (.sl (.pair (.int .i64) (.int .i64))) s), (1001, .box 103 [.sl (.sl (.pair (.int .i64) .bool)) c0.1, .sl (.pair (.int .i64) (.pair (.int .i64) (.int .i64))) c0.2.1, .sl (.sl (.int .i64)) c0.2.2])] ?_
   refine AW.ret ?_
   obtain rfl := Option.some.inj h
   exact zR [] [] []
 ·refine AW.seq ?_
  refine zo ?_
  refine zB [(0, .own 1000), (1, .fn (.func 128) [] [.bp 1001 0]), (7, .int .i64 (s.length : Int)), (8, .int .i64 0)] [(1000, .arr 42 (.sl (.pair (.int .i64) (.int .i64))) s), (1001, .box 103 [.sl (.sl (.pair (.int .i64) .bool)) c0.1, .sl (.pair (.int .i64) (.pair (.int .i64) (.int .i64))) c0.2.1, .sl (.sl (.int .i64)) c0.2.2])] ?_
  refine AW.block ?_
  obtain ⟨rv5, hw1, ho2⟩ := Option.bind_eq_some_iff.1 h
  refine AW.loopO (slices_IndexFunc_11_b1 s c0) (fun st1 => ⟨fr [(0, .own 1000), (1, .fn (.func 128) [] [.bp 1001 0]), (7, .int .i64 (s.length : Int)), (8, .int .i64 st1)], hpGet [(1000, .arr 42 (.sl (.pair (.int .i64) (.int .i64))) s), (1001, .box 103 [.sl (.sl (.pair (.int .i64) .bool)) c0.1, .sl (.pair (.int .i64) (.pair (.int .i64) (.int .i64))) c0.2.1, .sl (.sl (.int .i64)) c0.2.2])], gt⟩) 0 hw1 (zL [] [] []) ?_
  as_aux_lemma =>
   intro st1 x4 h hd3
   unfold slices_IndexFunc_11_b1 at h
   refine zo ?_
   refine zB [(0, .own 1000), (1, .fn (.func 128) [] [.bp 1001 0]), (7, .int .i64 (s.length : Int)), (8, .int .i64 st1), (9, .bool (decide (st1 < (s.length : Int))))] [(1000, .arr 42 (.sl (.pair (.int .i64) (.int .i64))) s), (1001, .box 103 [.sl (.sl (.pair (.int .i64) .bool)) c0.1, .sl (.pair (.int .i64) (.pair (.int .i64) (.int .i64))) c0.2.1, .sl (.sl (.int .i64)) c0.2.2])] ?_
   refine AW.seq ?_
   refine zQ h (fun hb6 h => ?_) (fun hb6 h => ?_)
   ·refine zk ?_
    refine AW.seq ?_
    refine AW.block ?_
    refine zo ?_
    refine zB [(0, .own 1000), (1, .fn (.func 128) [] [.bp 1001 0]), (5, .int .i64 st1), (7, .int .i64 (s.length : Int)), (8, .int .i64 st1)] [(1000, .arr 42 (.sl (.pair (.int .i64) (.int .i64))) s), (1001, .box 103 [.sl (.sl (.pair (.int .i64) .bool)) c0.1, .sl (.pair (.int .i64) (.pair (.int .i64) (.int .i64))) c0.2.1, .sl (.sl (.int .i64)) c0.2.2])] ?_
    refine zo ?_
    obtain ⟨c7, h⟩ := ck_some.1 h
    obtain ⟨c8, h⟩ := ck_some.1 h
    refine zS 5 [(0, .own 1000), (1, .fn (.func 128) [] [.bp 1001 0]), (5, .int .i64 st1), (7, .int .i64 (s.length : Int)), (8, .int .i64 st1), (11, .fn (.func 128) [] [.bp 1001 0]), (15, .sl (.pair (.int .i64) (.int .i64)) (s.getD st1.toNat []))] [(1000, .arr 42 (.sl (.pair (.int .i64) (.int .i64))) s), (1001, .box 103 [.sl (.sl (.pair (.int .i64) .bool)) c0.1, .sl (.pair (.int .i64) (.pair (.int .i64) (.int .i64))) c0.2.1, .sl (.sl (.int .i64)) c0.2.2])] ?_
    obtain ⟨v0, hv9, h⟩ := Option.bind_eq_some_iff.1 h
    refine zC [] [(1000, 1001)] (hc_delay_offer_cheapest_1 (s.getD st1.toNat []) c0 hv9) [(0, .own 1000), (1, .fn (.func 128) [] [.bp 1001 0]), (5, .int .i64 st1), (7, .int .i64 (s.length : Int)), (8, .int .i64 st1), (16, .bool v0)] [(1000, .arr 42 (.sl (.pair (.int .i64) (.int .i64))) s), (1001, .box 103 [.sl (.sl (.pair (.int .i64) .bool)) c0.1, .sl (.pair (.int .i64) (.pair (.int .i64) (.int .i64))) c0.2.1, .sl (.sl (.int .i64)) c0.2.2])] ?_
    refine zB [(0, .own 1000), (1, .fn (.func 128) [] [.bp 1001 0]), (5, .int .i64 st1), (7, .int .i64 (s.length : Int)), (8, .int .i64 st1), (16, .bool v0)] [(1000, .arr 42 (.sl (.pair (.int .i64) (.int .i64))) s), (1001, .box 103 [.sl (.sl (.pair (.int .i64) .bool)) c0.1, .sl (.pair (.int .i64) (.pair (.int .i64) (.int .i64))) c0.2.1, .sl (.sl (.int .i64)) c0.2.2])] ?_
    refine zQ h (fun hb10 h => ?_) (fun hb10 h => ?_)
    ·refine zo ?_
     refine zB [(4, .int .i64 st1)] [(1000, .arr 42 (.sl (.pair (.int .i64) (.int .i64))) s), (1001, .box 103 [.sl (.sl (.pair (.int .i64) .bool)) c0.1, .sl (.pair (.int .i64) (.pair (.int .i64) (.int .i64))) c0.2.1, .sl (.sl (.int .i64)) c0.2.2])] ?_
     refine AW.ret ?_
     refine ablock_r ?_
     refine athen_r ?_
     obtain rfl := Option.some.inj h
     rw [← hd3 _ rfl] at ho2
     have h := ho2
     try simp only at h
     refine athen_r ?_
     refine ablock_r ?_
     refine athen_r ?_
     obtain rfl := Option.some.inj h
     exact zR [] [] []
    ·refine zm ?_
     refine athen_n ?_
     refine AW.ops ?_
     obtain ⟨c11, h⟩ := ck_some.1 h
     refine zA [(0, .own 1000), (1, .fn (.func 128) [] [.bp 1001 0]), (7, .int .i64 (s.length : Int)), (8, .int .i64 (st1 + 1))] [(1000, .arr 42 (.sl (.pair (.int .i64) (.int .i64))) s), (1001, .box 103 [.sl (.sl (.pair (.int .i64) .bool)) c0.1, .sl (.pair (.int .i64) (.pair (.int .i64) (.int .i64))) c0.2.1, .sl (.sl (.int .i64)) c0.2.2])] ?_
     obtain rfl := Option.some.inj h
     exact ⟨_, rfl, zL [] [] []⟩
   ·refine AW.exit ?_
    refine athen_e ?_
    obtain rfl := Option.some.inj h
    try rw [← hd3 _ rfl] at ho2
    have h := ho2
    try simp only at h
    refine athen_e ?_
    refine ablock_s ?_
    refine athen_n ?_
    exact AW.weaken (zL [] [] []) (hk_slices_IndexFunc_11_k1 () h)

end Go.Proofs.Ytdicomoggfhbfaa
