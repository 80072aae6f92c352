/-
  Made by wip/tool/dc.py out of the print of the program: contracts.
-/
import Derived.Test.YtlfpagicagmjgaaHp
import Derived.Test.YtlfpagicagmjgaaShh
import Derived.Test.YtlfpagicagmjgaaAvd
import Derived.Test.YtlfpagicagmjgaaKjc1
import Derived.Test.YtlfpagicagmjgaaKjc2
import Derived.Test.YtlfpagicagmjgaaKjc3
namespace Go.Proofs.Ytlfpagicagmjgaa
open Go.RowKit

set_option linter.unusedSimpArgs false
set_option linter.unusedVariables false
set_option linter.constructorNameAsVariable false

set_option maxRecDepth 100000
set_option maxHeartbeats 2000000

theorem hc_linealref01_isTable (s : Int × Int × (List (List Int)) × (List (List Int))) (l : List (List Int)) (limit : Int) {r : Bool} (h : linealref01_isTable s l limit = some r) : HC Try.prog 125 [] [.agg [.int .i64 s.1, .int .i64 s.2.1, .sl (.sl (.int .i64)) s.2.2.1, .sl (.sl (.int .i64)) s.2.2.2], .sl (.sl (.int .i64)) l, .int .i64 limit] [] (.bool r) := by
 unfold linealref01_isTable at h
 refine zH Try.func125 [.tmp 6] 42 ?_
 refine zo ?_
 refine zB [(1, .sl (.sl (.int .i64)) l), (2, .int .i64 limit), (3, .bp 3 0)] [(3, .box 64 [.int .i64 s.1, .int .i64 s.2.1, .sl (.sl (.int .i64)) s.2.2.1, .sl (.sl (.int .i64)) s.2.2.2])] ?_
 refine AW.seq ?_
 refine zo ?_
 refine zB [(1, .sl (.sl (.int .i64)) l), (2, .int .i64 limit), (3, .bp 3 0), (15, .bool (!(decide ((l.length : Int) = s.1))))] [(3, .box 64 [.int .i64 s.1, .int .i64 s.2.1, .sl (.sl (.int .i64)) s.2.2.1, .sl (.sl (.int .i64)) s.2.2.2])] ?_
 refine zQ h (fun hb1 h => ?_) (fun hb1 h => ?_)
 ·refine zo ?_
  refine zB [(6, .bool false)] [] ?_
  refine zr ?_
  obtain rfl := Option.some.inj h
  exact zR [] [] []
 ·refine zk ?_
  refine AW.have1 (fun _ : Unit => linealref01_isTable_k1 = some r) (fun _ => ⟨fr [], hpGet [], gt⟩) (fun _ h => ?_) (fun hk_linealref01_isTable_k1 => ?_)
  ·unfold linealref01_isTable_k1 at h
   refine zo ?_
   refine zB [(6, .bool true)] [] ?_
   refine AW.ret ?_
   obtain rfl := Option.some.inj h
   exact zR [] [] []
  ·refine AW.seq ?_
   refine zo ?_
   refine zB [(2, .int .i64 limit), (3, .bp 3 0), (16, .sl (.sl (.int .i64)) l), (17, .int .i64 (l.length : Int)), (18, .int .i64 0)] [(3, .box 64 [.int .i64 s.1, .int .i64 s.2.1, .sl (.sl (.int .i64)) s.2.2.1, .sl (.sl (.int .i64)) s.2.2.2])] ?_
   refine AW.block ?_
   obtain ⟨rv6, hw2, ho3⟩ := Option.bind_eq_some_iff.1 h
   refine AW.loopO (linealref01_isTable_b1 s l limit) (fun st1 => ⟨fr [(2, .int .i64 limit), (3, .bp 3 0), (16, .sl (.sl (.int .i64)) l), (17, .int .i64 (l.length : Int)), (18, .int .i64 st1)], hpGet [(3, .box 64 [.int .i64 s.1, .int .i64 s.2.1, .sl (.sl (.int .i64)) s.2.2.1, .sl (.sl (.int .i64)) s.2.2.2])], gt⟩) 0 hw2 (zL [] [] []) ?_
   intro st1 x5 h hd4
   unfold linealref01_isTable_b1 at h
   refine zo ?_
   refine zB [(2, .int .i64 limit), (3, .bp 3 0), (16, .sl (.sl (.int .i64)) l), (17, .int .i64 (l.length : Int)), (18, .int .i64 st1), (19, .bool (decide (st1 < (l.length : Int))))] [(3, .box 64 [.int .i64 s.1, .int .i64 s.2.1, .sl (.sl (.int .i64)) s.2.2.1, .sl (.sl (.int .i64)) s.2.2.2])] ?_
   refine AW.seq ?_
   refine zQ h (fun hb7 h => ?_) (fun hb7 h => ?_)
   ·refine zk ?_
    refine AW.have1 (fun _ : Unit => linealref01_isTable_k2 st1 = some x5) (fun _ => ⟨fr [(2, .int .i64 limit), (3, .bp 3 0), (16, .sl (.sl (.int .i64)) l), (17, .int .i64 (l.length : Int)), (18, .int .i64 st1)], hpGet [(3, .box 64 [.int .i64 s.1, .int .i64 s.2.1, .sl (.sl (.int .i64)) s.2.2.1, .sl (.sl (.int .i64)) s.2.2.2])], gt⟩) (fun _ h => ?_) (fun hk_linealref01_isTable_k2 => ?_)
    ·unfold linealref01_isTable_k2 at h
     refine AW.ops ?_
     obtain ⟨c8, h⟩ := ck_some.1 h
     refine zA [(2, .int .i64 limit), (3, .bp 3 0), (16, .sl (.sl (.int .i64)) l), (17, .int .i64 (l.length : Int)), (18, .int .i64 (st1 + 1))] [(3, .box 64 [.int .i64 s.1, .int .i64 s.2.1, .sl (.sl (.int .i64)) s.2.2.1, .sl (.sl (.int .i64)) s.2.2.2])] ?_
     obtain rfl := Option.some.inj h
     exact ⟨_, rfl, zL [] [] []⟩
    ·refine AW.seq ?_
     refine AW.block ?_
     refine zo ?_
     obtain ⟨c9, h⟩ := ck_some.1 h
     obtain ⟨c10, h⟩ := ck_some.1 h
     refine zB [(2, .int .i64 limit), (3, .bp 3 0), (8, .sl (.int .i64) (l.getD st1.toNat [])), (16, .sl (.sl (.int .i64)) l), (17, .int .i64 (l.length : Int)), (18, .int .i64 st1)] [(3, .box 64 [.int .i64 s.1, .int .i64 s.2.1, .sl (.sl (.int .i64)) s.2.2.1, .sl (.sl (.int .i64)) s.2.2.2])] ?_
     refine AW.seq ?_
     refine zo ?_
     refine zB [(2, .int .i64 limit), (3, .bp 3 0), (8, .sl (.int .i64) (l.getD st1.toNat [])), (16, .sl (.sl (.int .i64)) l), (17, .int .i64 (l.length : Int)), (18, .int .i64 st1), (26, .bool (!(decide (((l.getD st1.toNat []).length : Int) = s.2.1))))] [(3, .box 64 [.int .i64 s.1, .int .i64 s.2.1, .sl (.sl (.int .i64)) s.2.2.1, .sl (.sl (.int .i64)) s.2.2.2])] ?_
     refine zQ h (fun hb11 h => ?_) (fun hb11 h => ?_)
     ·refine zo ?_
      refine zB [(6, .bool false)] [] ?_
      refine zr ?_
      refine ablock_r ?_
      refine athen_r ?_
      obtain rfl := Option.some.inj h
      rw [← hd4 _ rfl] at ho3
      have h := ho3
      try simp only at h
      refine athen_r ?_
      refine ablock_r ?_
      refine athen_r ?_
      obtain rfl := Option.some.inj h
      exact zR [] [] []
     ·refine zk ?_
      refine zo ?_
      refine zB [(2, .int .i64 limit), (3, .bp 3 0), (16, .sl (.sl (.int .i64)) l), (17, .int .i64 (l.length : Int)), (18, .int .i64 st1), (27, .sl (.int .i64) (l.getD st1.toNat [])), (28, .int .i64 ((l.getD st1.toNat []).length : Int)), (29, .int .i64 0)] [(3, .box 64 [.int .i64 s.1, .int .i64 s.2.1, .sl (.sl (.int .i64)) s.2.2.1, .sl (.sl (.int .i64)) s.2.2.2])] ?_
      refine AW.block ?_
      obtain ⟨rv16, hw12, ho13⟩ := Option.bind_eq_some_iff.1 h
      refine AW.loopO (linealref01_isTable_b2 l limit st1) (fun st2 => ⟨fr [(2, .int .i64 limit), (3, .bp 3 0), (16, .sl (.sl (.int .i64)) l), (17, .int .i64 (l.length : Int)), (18, .int .i64 st1), (27, .sl (.int .i64) (l.getD st1.toNat [])), (28, .int .i64 ((l.getD st1.toNat []).length : Int)), (29, .int .i64 st2)], hpGet [(3, .box 64 [.int .i64 s.1, .int .i64 s.2.1, .sl (.sl (.int .i64)) s.2.2.1, .sl (.sl (.int .i64)) s.2.2.2])], gt⟩) 0 hw12 (zL [] [] []) ?_
      intro st2 x15 h hd14
      unfold linealref01_isTable_b2 at h
      refine zo ?_
      refine zB [(2, .int .i64 limit), (3, .bp 3 0), (16, .sl (.sl (.int .i64)) l), (17, .int .i64 (l.length : Int)), (18, .int .i64 st1), (27, .sl (.int .i64) (l.getD st1.toNat [])), (28, .int .i64 ((l.getD st1.toNat []).length : Int)), (29, .int .i64 st2), (30, .bool (decide (st2 < ((l.getD st1.toNat []).length : Int))))] [(3, .box 64 [.int .i64 s.1, .int .i64 s.2.1, .sl (.sl (.int .i64)) s.2.2.1, .sl (.sl (.int .i64)) s.2.2.2])] ?_
      refine AW.seq ?_
      refine zQ h (fun hb17 h => ?_) (fun hb17 h => ?_)
      ·refine zk ?_
       refine AW.seq ?_
       refine AW.block ?_
       refine zo ?_
       obtain ⟨c18, h⟩ := ck_some.1 h
       obtain ⟨c19, h⟩ := ck_some.1 h
       refine zB [(2, .int .i64 limit), (3, .bp 3 0), (10, .int .i64 ((l.getD st1.toNat []).getD st2.toNat 0)), (16, .sl (.sl (.int .i64)) l), (17, .int .i64 (l.length : Int)), (18, .int .i64 st1), (27, .sl (.int .i64) (l.getD st1.toNat [])), (28, .int .i64 ((l.getD st1.toNat []).length : Int)), (29, .int .i64 st2)] [(3, .box 64 [.int .i64 s.1, .int .i64 s.2.1, .sl (.sl (.int .i64)) s.2.2.1, .sl (.sl (.int .i64)) s.2.2.2])] ?_
       refine zo ?_
       refine zS 3 [(2, .int .i64 limit), (3, .bp 3 0), (10, .int .i64 ((l.getD st1.toNat []).getD st2.toNat 0)), (16, .sl (.sl (.int .i64)) l), (17, .int .i64 (l.length : Int)), (18, .int .i64 st1), (27, .sl (.int .i64) (l.getD st1.toNat [])), (28, .int .i64 ((l.getD st1.toNat []).length : Int)), (29, .int .i64 st2), (35, .bool (decide (((l.getD st1.toNat []).getD st2.toNat 0) < 0)))] [(3, .box 64 [.int .i64 s.1, .int .i64 s.2.1, .sl (.sl (.int .i64)) s.2.2.1, .sl (.sl (.int .i64)) s.2.2.2])] ?_
       rcases zI h with ⟨hb20, h⟩ | ⟨hb20, h⟩
       ·refine zB [(2, .int .i64 limit), (3, .bp 3 0), (16, .sl (.sl (.int .i64)) l), (17, .int .i64 (l.length : Int)), (18, .int .i64 st1), (27, .sl (.int .i64) (l.getD st1.toNat [])), (28, .int .i64 ((l.getD st1.toNat []).length : Int)), (29, .int .i64 st2), (39, .bool true)] [(3, .box 64 [.int .i64 s.1, .int .i64 s.2.1, .sl (.sl (.int .i64)) s.2.2.1, .sl (.sl (.int .i64)) s.2.2.2])] ?_
        refine AW.cond (b := true) rfl (fun _ => ?_) (fun hb21 => by cases hb21)
        refine zo ?_
        refine zB [(6, .bool false)] [] ?_
        refine AW.ret ?_
        refine ablock_r ?_
        refine athen_r ?_
        obtain rfl := Option.some.inj h
        rw [← hd14 _ rfl] at ho13
        have h := ho13
        try simp only at h
        refine athen_r ?_
        refine ablock_r ?_
        refine ablock_r ?_
        refine athen_r ?_
        obtain rfl := Option.some.inj h
        rw [← hd4 _ rfl] at ho3
        have h := ho3
        try simp only at h
        refine athen_r ?_
        refine ablock_r ?_
        refine athen_r ?_
        obtain rfl := Option.some.inj h
        exact zR [] [] []
       ·refine zB [(2, .int .i64 limit), (3, .bp 3 0), (16, .sl (.sl (.int .i64)) l), (17, .int .i64 (l.length : Int)), (18, .int .i64 st1), (27, .sl (.int .i64) (l.getD st1.toNat [])), (28, .int .i64 ((l.getD st1.toNat []).length : Int)), (29, .int .i64 st2), (39, .bool (decide (limit ≤ ((l.getD st1.toNat []).getD st2.toNat 0))))] [(3, .box 64 [.int .i64 s.1, .int .i64 s.2.1, .sl (.sl (.int .i64)) s.2.2.1, .sl (.sl (.int .i64)) s.2.2.2])] ?_
        refine zQ h (fun hb22 h => ?_) (fun hb22 h => ?_)
        ·refine zo ?_
         refine zB [(6, .bool false)] [] ?_
         refine AW.ret ?_
         refine ablock_r ?_
         refine athen_r ?_
         obtain rfl := Option.some.inj h
         rw [← hd14 _ rfl] at ho13
         have h := ho13
         try simp only at h
         refine athen_r ?_
         refine ablock_r ?_
         refine ablock_r ?_
         refine athen_r ?_
         obtain rfl := Option.some.inj h
         rw [← hd4 _ rfl] at ho3
         have h := ho3
         try simp only at h
         refine athen_r ?_
         refine ablock_r ?_
         refine athen_r ?_
         obtain rfl := Option.some.inj h
         exact zR [] [] []
        ·refine zm ?_
         refine athen_n ?_
         refine AW.ops ?_
         obtain ⟨c23, h⟩ := ck_some.1 h
         refine zA [(2, .int .i64 limit), (3, .bp 3 0), (16, .sl (.sl (.int .i64)) l), (17, .int .i64 (l.length : Int)), (18, .int .i64 st1), (27, .sl (.int .i64) (l.getD st1.toNat [])), (28, .int .i64 ((l.getD st1.toNat []).length : Int)), (29, .int .i64 (st2 + 1))] [(3, .box 64 [.int .i64 s.1, .int .i64 s.2.1, .sl (.sl (.int .i64)) s.2.2.1, .sl (.sl (.int .i64)) s.2.2.2])] ?_
         obtain rfl := Option.some.inj h
         exact ⟨_, rfl, zL [] [] []⟩
      ·refine AW.exit ?_
       refine athen_e ?_
       obtain rfl := Option.some.inj h
       rw [← hd14 _ rfl] at ho13
       have h := ho13
       try simp only at h
       refine athen_e ?_
       refine ablock_s ?_
       refine ablock_n ?_
       refine athen_n ?_
       exact AW.weaken (zL [] [] []) (hk_linealref01_isTable_k2 () h)
   ·refine AW.exit ?_
    refine athen_e ?_
    obtain rfl := Option.some.inj h
    rw [← hd4 _ rfl] at ho3
    have h := ho3
    try simp only at h
    refine athen_e ?_
    refine ablock_s ?_
    refine athen_n ?_
    exact AW.weaken (zL [] [] []) (hk_linealref01_isTable_k1 () h)

theorem hc_linealref01_Valid (s : Int × Int × (List (List Int)) × (List (List Int))) {r : Bool} (h : linealref01_Valid s = some r) : HC Try.prog 116 [] [.agg [.int .i64 s.1, .int .i64 s.2.1, .sl (.sl (.int .i64)) s.2.2.1, .sl (.sl (.int .i64)) s.2.2.2]] [] (.bool r) := by
 unfold linealref01_Valid at h
 refine zH Try.func116 [.tmp 2] 35 ?_
 refine zo ?_
 refine zB [(1, .bp 1 0)] [(1, .box 64 [.int .i64 s.1, .int .i64 s.2.1, .sl (.sl (.int .i64)) s.2.2.1, .sl (.sl (.int .i64)) s.2.2.2])] ?_
 refine zo ?_
 refine zS 4 [(1, .bp 1 0), (6, .bool (decide (1 ≤ s.1)))] [(1, .box 64 [.int .i64 s.1, .int .i64 s.2.1, .sl (.sl (.int .i64)) s.2.2.1, .sl (.sl (.int .i64)) s.2.2.2])] ?_
 rcases zI h with ⟨hb1, h⟩ | ⟨hb1, h⟩
 ·refine zS 5 [(1, .bp 1 0), (11, .bool (decide (s.1 ≤ 8)))] [(1, .box 64 [.int .i64 s.1, .int .i64 s.2.1, .sl (.sl (.int .i64)) s.2.2.1, .sl (.sl (.int .i64)) s.2.2.2])] ?_
  rcases zI h with ⟨hb2, h⟩ | ⟨hb2, h⟩
  ·refine zS 5 [(1, .bp 1 0), (16, .bool (decide (1 ≤ s.2.1)))] [(1, .box 64 [.int .i64 s.1, .int .i64 s.2.1, .sl (.sl (.int .i64)) s.2.2.1, .sl (.sl (.int .i64)) s.2.2.2])] ?_
   rcases zI h with ⟨hb3, h⟩ | ⟨hb3, h⟩
   ·refine zS 5 [(1, .bp 1 0), (21, .bool (decide (s.2.1 ≤ 4)))] [(1, .box 64 [.int .i64 s.1, .int .i64 s.2.1, .sl (.sl (.int .i64)) s.2.2.1, .sl (.sl (.int .i64)) s.2.2.2])] ?_
    rcases zI h with ⟨hb4, h⟩ | ⟨hb4, h⟩
    ·refine zS 5 [(1, .bp 1 0), (21, .bool true), (22, .agg [.int .i64 s.1, .int .i64 s.2.1, .sl (.sl (.int .i64)) s.2.2.1, .sl (.sl (.int .i64)) s.2.2.2]), (24, .sl (.sl (.int .i64)) s.2.2.1), (26, .int .i64 s.1)] [(1, .box 64 [.int .i64 s.1, .int .i64 s.2.1, .sl (.sl (.int .i64)) s.2.2.1, .sl (.sl (.int .i64)) s.2.2.2])] ?_
     obtain ⟨v0, hv5, h⟩ := Option.bind_eq_some_iff.1 h
     refine zG [] [] (hc_linealref01_isTable s s.2.2.1 s.1 hv5) [(1, .bp 1 0), (21, .bool true), (27, .bool v0)] [(1, .box 64 [.int .i64 s.1, .int .i64 s.2.1, .sl (.sl (.int .i64)) s.2.2.1, .sl (.sl (.int .i64)) s.2.2.2])] ?_
     refine zS 2 [(1, .bp 1 0), (29, .bool v0)] [(1, .box 64 [.int .i64 s.1, .int .i64 s.2.1, .sl (.sl (.int .i64)) s.2.2.1, .sl (.sl (.int .i64)) s.2.2.2])] ?_
     rcases zI h with ⟨hb6, h⟩ | ⟨hb6, h⟩
     ·refine zS 3 [(29, .bool true), (30, .agg [.int .i64 s.1, .int .i64 s.2.1, .sl (.sl (.int .i64)) s.2.2.1, .sl (.sl (.int .i64)) s.2.2.2]), (32, .sl (.sl (.int .i64)) s.2.2.2)] [] ?_
      obtain ⟨v0_2, hv7, h⟩ := Option.bind_eq_some_iff.1 h
      refine zG [] [] (hc_linealref01_isTable s s.2.2.2 6 hv7) [(29, .bool true), (33, .bool v0_2)] [] ?_
      refine zB [(2, .bool v0_2)] [] ?_
      refine AW.ret ?_
      obtain rfl := Option.some.inj h
      exact zR [] [] []
     ·refine zS 4 [(29, .bool false), (33, .cv (undef))] [] ?_
      refine zB [(2, .bool false)] [] ?_
      refine AW.ret ?_
      obtain rfl := Option.some.inj h
      exact zR [] [] []
    ·refine zS 4 [(1, .bp 1 0), (21, .bool false), (22, .cv (undef)), (24, .cv (undef)), (25, .cv (undef))] [(1, .box 64 [.int .i64 s.1, .int .i64 s.2.1, .sl (.sl (.int .i64)) s.2.2.1, .sl (.sl (.int .i64)) s.2.2.2])] ?_
     refine zS 6 [(29, .bool false), (30, .cv (undef)), (31, .cv (undef))] [] ?_
     refine zB [(2, .bool false)] [] ?_
     refine AW.ret ?_
     obtain rfl := Option.some.inj h
     exact zR [] [] []
   ·refine zS 6 [(1, .bp 1 0), (21, .bool false), (22, .cv (undef))] [(1, .box 64 [.int .i64 s.1, .int .i64 s.2.1, .sl (.sl (.int .i64)) s.2.2.1, .sl (.sl (.int .i64)) s.2.2.2])] ?_
    refine zS 4 [(1, .bp 1 0), (21, .bool false), (22, .cv (undef)), (24, .cv (undef)), (26, .cv (undef))] [(1, .box 64 [.int .i64 s.1, .int .i64 s.2.1, .sl (.sl (.int .i64)) s.2.2.1, .sl (.sl (.int .i64)) s.2.2.2])] ?_
    refine zS 6 [(29, .bool false), (30, .cv (undef)), (32, .cv (undef))] [] ?_
    refine zB [(2, .bool false)] [] ?_
    refine AW.ret ?_
    obtain rfl := Option.some.inj h
    exact zR [] [] []
  ·refine zS 6 [(1, .bp 1 0), (16, .bool false), (17, .cv (undef))] [(1, .box 64 [.int .i64 s.1, .int .i64 s.2.1, .sl (.sl (.int .i64)) s.2.2.1, .sl (.sl (.int .i64)) s.2.2.2])] ?_
   refine zS 6 [(1, .bp 1 0), (21, .bool false), (22, .cv (undef)), (23, .cv (undef))] [(1, .box 64 [.int .i64 s.1, .int .i64 s.2.1, .sl (.sl (.int .i64)) s.2.2.1, .sl (.sl (.int .i64)) s.2.2.2])] ?_
   refine zS 4 [(1, .bp 1 0), (21, .bool false), (27, .cv (undef))] [(1, .box 64 [.int .i64 s.1, .int .i64 s.2.1, .sl (.sl (.int .i64)) s.2.2.1, .sl (.sl (.int .i64)) s.2.2.2])] ?_
   refine zS 6 [(29, .bool false), (33, .cv (undef))] [] ?_
   refine zB [(2, .bool false)] [] ?_
   refine AW.ret ?_
   obtain rfl := Option.some.inj h
   exact zR [] [] []
 ·refine zS 6 [(1, .bp 1 0), (11, .bool false), (12, .cv (undef))] [(1, .box 64 [.int .i64 s.1, .int .i64 s.2.1, .sl (.sl (.int .i64)) s.2.2.1, .sl (.sl (.int .i64)) s.2.2.2])] ?_
  refine zS 6 [(1, .bp 1 0), (16, .bool false), (18, .cv (undef))] [(1, .box 64 [.int .i64 s.1, .int .i64 s.2.1, .sl (.sl (.int .i64)) s.2.2.1, .sl (.sl (.int .i64)) s.2.2.2])] ?_
  refine zS 6 [(1, .bp 1 0), (21, .bool false), (22, .cv (undef)), (24, .cv (undef))] [(1, .box 64 [.int .i64 s.1, .int .i64 s.2.1, .sl (.sl (.int .i64)) s.2.2.1, .sl (.sl (.int .i64)) s.2.2.2])] ?_
  refine zS 6 [(1, .bp 1 0), (29, .bool false), (30, .cv (undef))] [(1, .box 64 [.int .i64 s.1, .int .i64 s.2.1, .sl (.sl (.int .i64)) s.2.2.1, .sl (.sl (.int .i64)) s.2.2.2])] ?_
  refine zB [(2, .bool false)] [] ?_
  refine AW.ret ?_
  obtain rfl := Option.some.inj h
  exact zR [] [] []

theorem hc_linealref02_areSpecs (specs : ZS) {r : Bool} (h : linealref02_areSpecs specs = some r) : HC Try.prog 62 [] [.sl Y0 specs] [] (.bool r) := by
 unfold linealref02_areSpecs at h
 refine zH Try.func62 [.tmp 2] 19 ?_
 refine zo ?_
 refine zB [(0, .sl Y0 specs)] [] ?_
 refine AW.have1 (fun _ : Unit => linealref02_areSpecs_k1 specs = some r) (fun _ => ⟨fr [(0, .sl Y0 specs)], hpGet [], gt⟩) (fun _ h => ?_) (fun hk_linealref02_areSpecs_k1 => ?_)
 ·unfold linealref02_areSpecs_k1 at h
  refine zo ?_
  refine zS 2 [(17, .int .i64 (specs.length : Int))] [] ?_
  obtain ⟨v0_2, hv1, h⟩ := Option.bind_eq_some_iff.1 h
  refine zC [] [] (hc_linealref02_within 1 (specs.length : Int) 2 hv1) [(18, .bool v0_2)] [] ?_
  refine zB [(2, .bool v0_2)] [] ?_
  refine AW.ret ?_
  obtain rfl := Option.some.inj h
  exact zR [] [] []
 ·refine AW.seq ?_
  refine zo ?_
  refine zB [(0, .sl Y0 specs), (3, .int .i64 0)] [] ?_
  refine AW.block ?_
  obtain ⟨rv6, hw2, ho3⟩ := Option.bind_eq_some_iff.1 h
  refine AW.loopO (linealref02_areSpecs_b1 specs) (fun st1 => ⟨fr [(0, .sl Y0 specs), (3, .int .i64 st1)], hpGet [], gt⟩) 0 hw2 (zL [] [] []) ?_
  intro st1 x5 h hd4
  unfold linealref02_areSpecs_b1 at h
  refine AW.seq ?_
  refine zo ?_
  refine zB [(0, .sl Y0 specs), (3, .int .i64 st1), (7, .bool (decide (st1 < (specs.length : Int))))] [] ?_
  refine zQ h (fun hb7 h => ?_) (fun hb7 h => ?_)
  ·refine zk ?_
   refine AW.seq ?_
   refine AW.block ?_
   refine zo ?_
   obtain ⟨c8, h⟩ := ck_some.1 h
   obtain ⟨c9, h⟩ := ck_some.1 h
   refine zS 4 [(0, .sl Y0 specs), (3, .int .i64 st1), (13, .agg [.int .i64 (specs.getD st1.toNat (0, 0, [], [])).1, .int .i64 (specs.getD st1.toNat (0, 0, [], [])).2.1, .sl (.sl (.int .i64)) (specs.getD st1.toNat (0, 0, [], [])).2.2.1, .sl (.sl (.int .i64)) (specs.getD st1.toNat (0, 0, [], [])).2.2.2])] [] ?_
   obtain ⟨v0, hv10, h⟩ := Option.bind_eq_some_iff.1 h
   refine zC [] [] (hc_linealref01_Valid (specs.getD st1.toNat (0, 0, [], [])) hv10) [(0, .sl Y0 specs), (3, .int .i64 st1), (14, .bool v0)] [] ?_
   refine zB [(0, .sl Y0 specs), (3, .int .i64 st1), (15, .bool (!v0))] [] ?_
   refine zQ h (fun hb11 h => ?_) (fun hb11 h => ?_)
   ·refine zo ?_
    refine zB [(2, .bool false)] [] ?_
    refine AW.ret ?_
    refine ablock_r ?_
    refine athen_r ?_
    obtain rfl := Option.some.inj h
    rw [← hd4 _ rfl] at ho3
    have h := ho3
    try simp only at h
    refine athen_r ?_
    refine ablock_r ?_
    refine athen_r ?_
    obtain rfl := Option.some.inj h
    exact zR [] [] []
   ·refine zm ?_
    refine athen_n ?_
    refine AW.ops ?_
    obtain ⟨c12, h⟩ := ck_some.1 h
    refine zA [(0, .sl Y0 specs), (3, .int .i64 (st1 + 1))] [] ?_
    obtain rfl := Option.some.inj h
    exact ⟨_, rfl, zL [] [] []⟩
  ·refine AW.exit ?_
   refine athen_e ?_
   obtain rfl := Option.some.inj h
   rw [← hd4 _ rfl] at ho3
   have h := ho3
   try simp only at h
   refine athen_e ?_
   refine ablock_s ?_
   refine athen_n ?_
   exact AW.weaken (zL [] [] []) (hk_linealref02_areSpecs_k1 () h)

theorem hc_linealref02_isFor (specs : ZS) (h0 : ZH) {r : Bool} (h : linealref02_isFor specs h0 = some r) : HC Try.prog 63 [] [.sl Y0 specs, .sl Y1 h0] [] (.bool r) := by
 unfold linealref02_isFor at h
 refine zH Try.func63 [.tmp 4] 45 ?_
 refine zo ?_
 refine zB [(0, .sl Y0 specs), (1, .sl Y1 h0)] [] ?_
 refine AW.seq ?_
 refine zo ?_
 refine zS 1 [(0, .sl Y0 specs), (1, .sl Y1 h0), (6, .sl Y0 specs)] [] ?_
 obtain ⟨v0, hv1, h⟩ := Option.bind_eq_some_iff.1 h
 refine zC [] [] (hc_linealref02_areSpecs specs hv1) [(0, .sl Y0 specs), (1, .sl Y1 h0), (7, .bool v0)] [] ?_
 refine zS 2 [(0, .sl Y0 specs), (1, .sl Y1 h0), (9, .bool (!v0))] [] ?_
 rcases zI h with ⟨hb2, h⟩ | ⟨hb2, h⟩
 ·refine zB [(0, .sl Y0 specs), (1, .sl Y1 h0), (13, .bool true)] [] ?_
  refine AW.cond (b := true) rfl (fun _ => ?_) (fun hb3 => by cases hb3)
  refine zo ?_
  refine zB [(4, .bool false)] [] ?_
  refine zr ?_
  obtain rfl := Option.some.inj h
  exact zR [] [] []
 ·refine zS 1 [(0, .sl Y0 specs), (1, .sl Y1 h0), (9, .bool false), (10, .sl Y1 h0)] [] ?_
  obtain ⟨v0_2, hv4, h⟩ := Option.bind_eq_some_iff.1 h
  refine zG [] [] (hc_linealref02_Valid h0 hv4) [(0, .sl Y0 specs), (1, .sl Y1 h0), (9, .bool false), (11, .bool v0_2)] [] ?_
  refine zB [(0, .sl Y0 specs), (1, .sl Y1 h0), (13, .bool (!v0_2))] [] ?_
  refine zQ h (fun hb5 h => ?_) (fun hb5 h => ?_)
  ·refine zo ?_
   refine zB [(4, .bool false)] [] ?_
   refine zr ?_
   obtain rfl := Option.some.inj h
   exact zR [] [] []
  ·refine zk ?_
   refine AW.have1 (fun _ : Unit => linealref02_isFor_k1 = some r) (fun _ => ⟨fr [], hpGet [], gt⟩) (fun _ h => ?_) (fun hk_linealref02_isFor_k1 => ?_)
   ·unfold linealref02_isFor_k1 at h
    refine zo ?_
    refine zB [(4, .bool true)] [] ?_
    refine AW.ret ?_
    obtain rfl := Option.some.inj h
    exact zR [] [] []
   ·refine AW.seq ?_
    refine zo ?_
    refine zB [(0, .sl Y0 specs), (1, .sl Y1 h0), (5, .int .i64 0)] [] ?_
    refine AW.block ?_
    obtain ⟨rv10, hw6, ho7⟩ := Option.bind_eq_some_iff.1 h
    refine AW.loopO (linealref02_isFor_b1 specs h0) (fun st1 => ⟨fr [(0, .sl Y0 specs), (1, .sl Y1 h0), (5, .int .i64 st1)], hpGet [], gt⟩) 0 hw6 (zL [] [] []) ?_
    intro st1 x9 h hd8
    unfold linealref02_isFor_b1 at h
    refine AW.seq ?_
    refine zo ?_
    refine zB [(0, .sl Y0 specs), (1, .sl Y1 h0), (5, .int .i64 st1), (17, .bool (decide (st1 < (h0.length : Int))))] [] ?_
    refine zQ h (fun hb11 h => ?_) (fun hb11 h => ?_)
    ·refine zk ?_
     refine AW.seq ?_
     refine AW.block ?_
     refine AW.seq ?_
     refine AW.draw tab_ok mixed_ok [] [] (by decide) (lex_fast (by kernel_rfl)) ?_
     obtain ⟨c13, h⟩ := ck_some.1 h
     obtain ⟨c14, h⟩ := ck_some.1 h
     refine adops_cut 6 (fun K' hK12 => ?_)
     try dsimp only [List.drop_succ_cons, List.drop_zero, List.take_succ_cons, List.take_zero]
     simp only [go_sem, hb2, hb5, hb11]
     repeat with_reducible refine zN ?_
     refine hK12 _ ?_
     refine adops_cut 3 (fun K' hK15 => ?_)
     try dsimp only [List.drop_succ_cons, List.drop_zero, List.take_succ_cons, List.take_zero]
     simp only [go_sem, hb2, hb5, hb11]
     repeat with_reducible refine zN ?_
     refine hK15 _ ?_
     rcases zI h with ⟨hb16, h⟩ | ⟨hb16, h⟩
     ·simp only [hb16]
      refine adops_cut 4 (fun K' hK17 => ?_)
      try dsimp only [List.drop_succ_cons, List.drop_zero, List.take_succ_cons, List.take_zero]
      simp only [go_sem, hb2, hb5, hb11, hb16]
      repeat with_reducible refine zN ?_
      refine hK17 _ ?_
      refine adops_cut 4 (fun K' hK18 => ?_)
      try dsimp only [List.drop_succ_cons, List.drop_zero, List.take_succ_cons, List.take_zero]
      simp only [go_sem, hb2, hb5, hb11, hb16]
      repeat with_reducible refine zN ?_
      refine hK18 _ ?_
      refine adops_cut 4 (fun K' hK19 => ?_)
      try dsimp only [List.drop_succ_cons, List.drop_zero, List.take_succ_cons, List.take_zero]
      simp only [go_sem, hb2, hb5, hb11, hb16]
      repeat with_reducible refine zN ?_
      refine hK19 _ ?_
      refine adops_cut 4 (fun K' hK20 => ?_)
      try dsimp only [List.drop_succ_cons, List.drop_zero, List.take_succ_cons, List.take_zero]
      simp only [go_sem, hb2, hb5, hb11, hb16]
      repeat with_reducible refine zN ?_
      refine hK20 _ ?_
      refine adops_nil ?_
      refine athen_n ?_
      refine zV [(0, .sl Y0 specs), (1, .sl Y1 h0), (5, .int .i64 st1), (44, .bool true)] [] gt ?_
      refine AW.cond (b := true) rfl (fun _ => ?_) (fun hb21 => by cases hb21)
      refine zo ?_
      refine zB [(4, .bool false)] [] ?_
      refine AW.ret ?_
      refine ablock_r ?_
      refine athen_r ?_
      obtain rfl := Option.some.inj h
      rw [← hd8 _ rfl] at ho7
      have h := ho7
      try simp only at h
      refine athen_r ?_
      refine ablock_r ?_
      refine athen_r ?_
      obtain rfl := Option.some.inj h
      exact zR [] [] []
     ·simp only [hb16]
      obtain ⟨c23, h⟩ := ck_some.1 h
      obtain ⟨c24, h⟩ := ck_some.1 h
      refine adops_cut 6 (fun K' hK22 => ?_)
      try dsimp only [List.drop_succ_cons, List.drop_zero, List.take_succ_cons, List.take_zero]
      simp only [go_sem, hb2, hb5, hb11, hb16]
      repeat with_reducible refine zN ?_
      refine hK22 _ ?_
      obtain ⟨c26, h⟩ := ck_some.1 h
      obtain ⟨c27, h⟩ := ck_some.1 h
      obtain ⟨c28, h⟩ := ck_some.1 h
      obtain ⟨c29, h⟩ := ck_some.1 h
      refine adops_cut 6 (fun K' hK25 => ?_)
      try dsimp only [List.drop_succ_cons, List.drop_zero, List.take_succ_cons, List.take_zero]
      simp only [go_sem, hb2, hb5, hb11, hb16]
      repeat with_reducible refine zN ?_
      refine hK25 _ ?_
      refine adops_cut 4 (fun K' hK30 => ?_)
      try dsimp only [List.drop_succ_cons, List.drop_zero, List.take_succ_cons, List.take_zero]
      simp only [go_sem, hb2, hb5, hb11, hb16]
      repeat with_reducible refine zN ?_
      refine hK30 _ ?_
      refine adops_nil ?_
      refine athen_n ?_
      refine zV [(0, .sl Y0 specs), (1, .sl Y1 h0), (5, .int .i64 st1), (44, .bool (decide ((specs.getD (h0.getD st1.toNat (0, 0, 0, 0, 0, 0)).2.1.toNat (0, 0, [], [])).2.1 ≤ (h0.getD st1.toNat (0, 0, 0, 0, 0, 0)).2.2.1)))] [] gt ?_
      refine zQ h (fun hb31 h => ?_) (fun hb31 h => ?_)
      ·refine zo ?_
       refine zB [(4, .bool false)] [] ?_
       refine AW.ret ?_
       refine ablock_r ?_
       refine athen_r ?_
       obtain rfl := Option.some.inj h
       rw [← hd8 _ rfl] at ho7
       have h := ho7
       try simp only at h
       refine athen_r ?_
       refine ablock_r ?_
       refine athen_r ?_
       obtain rfl := Option.some.inj h
       exact zR [] [] []
      ·refine zm ?_
       refine athen_n ?_
       refine AW.ops ?_
       obtain ⟨c32, h⟩ := ck_some.1 h
       refine zA [(0, .sl Y0 specs), (1, .sl Y1 h0), (5, .int .i64 (st1 + 1))] [] ?_
       obtain rfl := Option.some.inj h
       exact ⟨_, rfl, zL [] [] []⟩
    ·refine AW.exit ?_
     refine athen_e ?_
     obtain rfl := Option.some.inj h
     rw [← hd8 _ rfl] at ho7
     have h := ho7
     try simp only at h
     refine athen_e ?_
     refine ablock_s ?_
     refine athen_n ?_
     exact AW.weaken (zL [] [] []) (hk_linealref02_isFor_k1 () h)

theorem hc_linealref02_For (specs : ZS) (h0 : ZH) {r : Bool × Int} (h : linealref02_For specs h0 = some r) : HC Try.prog 21 [] [.sl Y0 specs, .sl Y1 h0] [] (.tup [.bool r.1, .int .i64 r.2]) := by
 unfold linealref02_For at h
 refine zH Try.func21 [.tmp 4, .tmp 5] 12 ?_
 refine zo ?_
 refine zB [(0, .sl Y0 specs), (1, .sl Y1 h0)] [] ?_
 refine AW.seq ?_
 refine zo ?_
 refine zS 1 [(0, .sl Y0 specs), (1, .sl Y1 h0), (6, .sl Y0 specs)] [] ?_
 obtain ⟨v0, hv1, h⟩ := Option.bind_eq_some_iff.1 h
 refine zC [] [] (hc_linealref02_areSpecs specs hv1) [(0, .sl Y0 specs), (1, .sl Y1 h0), (7, .bool v0)] [] ?_
 refine zB [(0, .sl Y0 specs), (1, .sl Y1 h0), (8, .bool (!v0))] [] ?_
 refine zQ h (fun hb2 h => ?_) (fun hb2 h => ?_)
 ·refine zo ?_
  refine zB [(4, .bool false), (5, .int .i64 10)] [] ?_
  refine zr ?_
  obtain rfl := Option.some.inj h
  exact zR [] [] []
 ·refine zk ?_
  refine zo ?_
  refine zS 2 [(9, .sl Y0 specs), (10, .sl Y1 h0)] [] ?_
  obtain ⟨v0_2, hv3, h⟩ := Option.bind_eq_some_iff.1 h
  refine zC [] [] (hc_linealref02_isFor specs h0 hv3) [(11, .bool v0_2)] [] ?_
  refine zB [(4, .bool v0_2), (5, .int .i64 0)] [] ?_
  refine AW.ret ?_
  obtain rfl := Option.some.inj h
  exact zR [] [] []

theorem hc_history_width_1 (c : Int × Int × Int × Int × Int × Int) (a1 : Int × Int × Int × Int × Int × Int) {r : Bool} (h : history_width_1 c a1 = some r) : HC Try.prog 121 [(1000, .box 55 [.int .i64 a1.1, .int .i64 a1.2.1, .int .i64 a1.2.2.1, .int .i64 a1.2.2.2.1, .int .i64 a1.2.2.2.2.1, .int .i64 a1.2.2.2.2.2])] [.agg [.int .i64 c.1, .int .i64 c.2.1, .int .i64 c.2.2.1, .int .i64 c.2.2.2.1, .int .i64 c.2.2.2.2.1, .int .i64 c.2.2.2.2.2], .bp 1000 0] [(1000, .box 55 [.int .i64 a1.1, .int .i64 a1.2.1, .int .i64 a1.2.2.1, .int .i64 a1.2.2.2.1, .int .i64 a1.2.2.2.2.1, .int .i64 a1.2.2.2.2.2])] (.bool r) := by
 unfold history_width_1 at h
 refine zH Try.func121 [.tmp 3] 21 ?_
 refine zo ?_
 refine zB [(1, .bp 1000 0), (2, .bp 2 0)] [(2, .box 55 [.int .i64 c.1, .int .i64 c.2.1, .int .i64 c.2.2.1, .int .i64 c.2.2.2.1, .int .i64 c.2.2.2.2.1, .int .i64 c.2.2.2.2.2]), (1000, .box 55 [.int .i64 a1.1, .int .i64 a1.2.1, .int .i64 a1.2.2.1, .int .i64 a1.2.2.2.1, .int .i64 a1.2.2.2.2.1, .int .i64 a1.2.2.2.2.2])] ?_
 refine zo ?_
 refine zS 6 [(1, .bp 1000 0), (2, .bp 2 0), (9, .bool (decide (c.2.2.2.2.1 ≤ a1.2.2.2.2.1)))] [(2, .box 55 [.int .i64 c.1, .int .i64 c.2.1, .int .i64 c.2.2.1, .int .i64 c.2.2.2.1, .int .i64 c.2.2.2.2.1, .int .i64 c.2.2.2.2.2]), (1000, .box 55 [.int .i64 a1.1, .int .i64 a1.2.1, .int .i64 a1.2.2.1, .int .i64 a1.2.2.2.1, .int .i64 a1.2.2.2.2.1, .int .i64 a1.2.2.2.2.2])] ?_
 rcases zI h with ⟨hb1, h⟩ | ⟨hb1, h⟩
 ·refine zS 4 [(1, .bp 1000 0), (2, .bp 2 0), (9, .bool true), (13, .bool (decide (c.2.2.2.2.2 = 0)))] [(2, .box 55 [.int .i64 c.1, .int .i64 c.2.1, .int .i64 c.2.2.1, .int .i64 c.2.2.2.1, .int .i64 c.2.2.2.2.1, .int .i64 c.2.2.2.2.2]), (1000, .box 55 [.int .i64 a1.1, .int .i64 a1.2.1, .int .i64 a1.2.2.1, .int .i64 a1.2.2.2.1, .int .i64 a1.2.2.2.2.1, .int .i64 a1.2.2.2.2.2])] ?_
  rcases zI h with ⟨hb2, h⟩ | ⟨hb2, h⟩
  ·refine zS 4 [(9, .bool true), (13, .bool true), (15, .cv (undef)), (17, .cv (undef))] [(1000, .box 55 [.int .i64 a1.1, .int .i64 a1.2.1, .int .i64 a1.2.2.1, .int .i64 a1.2.2.2.1, .int .i64 a1.2.2.2.2.1, .int .i64 a1.2.2.2.2.2])] ?_
   refine zB [(3, .bool true)] [(1000, .box 55 [.int .i64 a1.1, .int .i64 a1.2.1, .int .i64 a1.2.2.1, .int .i64 a1.2.2.2.1, .int .i64 a1.2.2.2.2.1, .int .i64 a1.2.2.2.2.2])] ?_
   refine AW.ret ?_
   obtain rfl := Option.some.inj h
   exact zR [] [] []
  ·refine zB [(3, .bool (decide (a1.2.2.2.2.1 ≤ c.2.2.2.2.2)))] [(1000, .box 55 [.int .i64 a1.1, .int .i64 a1.2.1, .int .i64 a1.2.2.1, .int .i64 a1.2.2.2.1, .int .i64 a1.2.2.2.2.1, .int .i64 a1.2.2.2.2.2])] ?_
   refine AW.ret ?_
   obtain rfl := Option.some.inj h
   exact zR [] [] []
 ·refine zS 4 [(1, .bp 1000 0), (2, .bp 2 0), (9, .bool false), (13, .cv (undef))] [(2, .box 55 [.int .i64 c.1, .int .i64 c.2.1, .int .i64 c.2.2.1, .int .i64 c.2.2.2.1, .int .i64 c.2.2.2.2.1, .int .i64 c.2.2.2.2.2]), (1000, .box 55 [.int .i64 a1.1, .int .i64 a1.2.1, .int .i64 a1.2.2.1, .int .i64 a1.2.2.2.1, .int .i64 a1.2.2.2.2.1, .int .i64 a1.2.2.2.2.2])] ?_
  refine zS 4 [(9, .bool false), (13, .cv (undef)), (15, .cv (undef)), (17, .cv (undef))] [(1000, .box 55 [.int .i64 a1.1, .int .i64 a1.2.1, .int .i64 a1.2.2.1, .int .i64 a1.2.2.2.1, .int .i64 a1.2.2.2.2.1, .int .i64 a1.2.2.2.2.2])] ?_
  refine zB [(3, .bool false)] [(1000, .box 55 [.int .i64 a1.1, .int .i64 a1.2.1, .int .i64 a1.2.2.1, .int .i64 a1.2.2.2.1, .int .i64 a1.2.2.2.2.1, .int .i64 a1.2.2.2.2.2])] ?_
  refine AW.ret ?_
  obtain rfl := Option.some.inj h
  exact zR [] [] []

theorem hc_history_those (h0 : ZH) (c0 : Int × Int × Int × Int × Int × Int) {r : ZH} (h : history_those h0 c0 = some r) : HC Try.prog 101 [(1000, .box 55 [.int .i64 c0.1, .int .i64 c0.2.1, .int .i64 c0.2.2.1, .int .i64 c0.2.2.2.1, .int .i64 c0.2.2.2.2.1, .int .i64 c0.2.2.2.2.2])] [.sl Y1 h0, .fn (.func 121) [] [.bp 1000 0]] [(1000, .box 55 [.int .i64 c0.1, .int .i64 c0.2.1, .int .i64 c0.2.2.1, .int .i64 c0.2.2.2.1, .int .i64 c0.2.2.2.2.1, .int .i64 c0.2.2.2.2.2]), (2000, .arr 55 Y1 r)] (.own 2000) := by
 unfold history_those at h
 refine zH Try.func101 [.tmp 4] 23 ?_
 refine zo ?_
 refine zB [(0, .sl Y1 h0), (1, .fn (.func 121) [] [.bp 1000 0])] [(1000, .box 55 [.int .i64 c0.1, .int .i64 c0.2.1, .int .i64 c0.2.2.1, .int .i64 c0.2.2.2.1, .int .i64 c0.2.2.2.2.1, .int .i64 c0.2.2.2.2.2])] ?_
 refine zo ?_
 refine zB [(0, .sl Y1 h0), (1, .fn (.func 121) [] [.bp 1000 0]), (5, .cv (.slice none 0 0))] [(1000, .box 55 [.int .i64 c0.1, .int .i64 c0.2.1, .int .i64 c0.2.2.1, .int .i64 c0.2.2.2.1, .int .i64 c0.2.2.2.2.1, .int .i64 c0.2.2.2.2.2])] ?_
 refine AW.have1 (fun b1 : ZH => history_those_k1 b1 = some r) (fun b1 => ⟨fr [(5, .own 20)], hpGet [(20, .arr 55 Y1 b1), (1000, .box 55 [.int .i64 c0.1, .int .i64 c0.2.1, .int .i64 c0.2.2.1, .int .i64 c0.2.2.2.1, .int .i64 c0.2.2.2.2.1, .int .i64 c0.2.2.2.2.2])], gt⟩) (fun b1 h => ?_) (fun hk_history_those_k1 => ?_)
 ·unfold history_those_k1 at h
  refine zo ?_
  refine zB [(4, .own 20)] [(20, .arr 55 Y1 b1), (1000, .box 55 [.int .i64 c0.1, .int .i64 c0.2.1, .int .i64 c0.2.2.1, .int .i64 c0.2.2.2.1, .int .i64 c0.2.2.2.2.1, .int .i64 c0.2.2.2.2.2])] ?_
  refine AW.ret ?_
  obtain rfl := Option.some.inj h
  exact zR [] [] [(2000, 20)]
 ·refine AW.seq ?_
  refine zo ?_
  refine zB [(1, .fn (.func 121) [] [.bp 1000 0]), (5, .cv (.slice none 0 0)), (8, .sl Y1 h0), (9, .int .i64 (h0.length : Int)), (10, .int .i64 0)] [(1000, .box 55 [.int .i64 c0.1, .int .i64 c0.2.1, .int .i64 c0.2.2.1, .int .i64 c0.2.2.2.1, .int .i64 c0.2.2.2.2.1, .int .i64 c0.2.2.2.2.2])] ?_
  refine AW.block ?_
  obtain ⟨rv5, hw1, ho2⟩ := Option.bind_eq_some_iff.1 h
  refine AW.loopO (history_those_b1 h0 c0) (fun st1 => ⟨fr [(1, .fn (.func 121) [] [.bp 1000 0]), (5, .own 20), (8, .sl Y1 h0), (9, .int .i64 (h0.length : Int)), (10, .int .i64 st1.2)], hpGet [(20, .arr 55 Y1 st1.1), (1000, .box 55 [.int .i64 c0.1, .int .i64 c0.2.1, .int .i64 c0.2.2.1, .int .i64 c0.2.2.2.1, .int .i64 c0.2.2.2.2.1, .int .i64 c0.2.2.2.2.2])], gt⟩) ([], 0) hw1 (zL [] [20] []) ?_
  intro st1 x4 h hd3
  unfold history_those_b1 at h
  refine zo ?_
  refine zB [(1, .fn (.func 121) [] [.bp 1000 0]), (5, .own 20), (8, .sl Y1 h0), (9, .int .i64 (h0.length : Int)), (10, .int .i64 st1.2), (11, .bool (decide (st1.2 < (h0.length : Int))))] [(20, .arr 55 Y1 st1.1), (1000, .box 55 [.int .i64 c0.1, .int .i64 c0.2.1, .int .i64 c0.2.2.1, .int .i64 c0.2.2.2.1, .int .i64 c0.2.2.2.2.1, .int .i64 c0.2.2.2.2.2])] ?_
  refine AW.seq ?_
  refine zQ h (fun hb6 h => ?_) (fun hb6 h => ?_)
  ·refine zk ?_
   refine AW.seq ?_
   refine AW.block ?_
   refine zo ?_
   obtain ⟨c7, h⟩ := ck_some.1 h
   obtain ⟨c8, h⟩ := ck_some.1 h
   refine zB [(1, .fn (.func 121) [] [.bp 1000 0]), (5, .own 20), (7, .bp 7 0), (8, .sl Y1 h0), (9, .int .i64 (h0.length : Int)), (10, .int .i64 st1.2)] [(7, .box 55 [.int .i64 (h0.getD st1.2.toNat (0, 0, 0, 0, 0, 0)).1, .int .i64 (h0.getD st1.2.toNat (0, 0, 0, 0, 0, 0)).2.1, .int .i64 (h0.getD st1.2.toNat (0, 0, 0, 0, 0, 0)).2.2.1, .int .i64 (h0.getD st1.2.toNat (0, 0, 0, 0, 0, 0)).2.2.2.1, .int .i64 (h0.getD st1.2.toNat (0, 0, 0, 0, 0, 0)).2.2.2.2.1, .int .i64 (h0.getD st1.2.toNat (0, 0, 0, 0, 0, 0)).2.2.2.2.2]), (20, .arr 55 Y1 st1.1), (1000, .box 55 [.int .i64 c0.1, .int .i64 c0.2.1, .int .i64 c0.2.2.1, .int .i64 c0.2.2.2.1, .int .i64 c0.2.2.2.2.1, .int .i64 c0.2.2.2.2.2])] ?_
   refine zo ?_
   refine zS 2 [(1, .fn (.func 121) [] [.bp 1000 0]), (5, .own 20), (7, .bp 7 0), (8, .sl Y1 h0), (9, .int .i64 (h0.length : Int)), (10, .int .i64 st1.2), (14, .fn (.func 121) [] [.bp 1000 0]), (15, .agg [.int .i64 (h0.getD st1.2.toNat (0, 0, 0, 0, 0, 0)).1, .int .i64 (h0.getD st1.2.toNat (0, 0, 0, 0, 0, 0)).2.1, .int .i64 (h0.getD st1.2.toNat (0, 0, 0, 0, 0, 0)).2.2.1, .int .i64 (h0.getD st1.2.toNat (0, 0, 0, 0, 0, 0)).2.2.2.1, .int .i64 (h0.getD st1.2.toNat (0, 0, 0, 0, 0, 0)).2.2.2.2.1, .int .i64 (h0.getD st1.2.toNat (0, 0, 0, 0, 0, 0)).2.2.2.2.2])] [(7, .box 55 [.int .i64 (h0.getD st1.2.toNat (0, 0, 0, 0, 0, 0)).1, .int .i64 (h0.getD st1.2.toNat (0, 0, 0, 0, 0, 0)).2.1, .int .i64 (h0.getD st1.2.toNat (0, 0, 0, 0, 0, 0)).2.2.1, .int .i64 (h0.getD st1.2.toNat (0, 0, 0, 0, 0, 0)).2.2.2.1, .int .i64 (h0.getD st1.2.toNat (0, 0, 0, 0, 0, 0)).2.2.2.2.1, .int .i64 (h0.getD st1.2.toNat (0, 0, 0, 0, 0, 0)).2.2.2.2.2]), (20, .arr 55 Y1 st1.1), (1000, .box 55 [.int .i64 c0.1, .int .i64 c0.2.1, .int .i64 c0.2.2.1, .int .i64 c0.2.2.2.1, .int .i64 c0.2.2.2.2.1, .int .i64 c0.2.2.2.2.2])] ?_
   obtain ⟨v0, hv9, h⟩ := Option.bind_eq_some_iff.1 h
   refine zC [] [(1000, 1000)] (hc_history_width_1 (h0.getD st1.2.toNat (0, 0, 0, 0, 0, 0)) c0 hv9) [(1, .fn (.func 121) [] [.bp 1000 0]), (5, .own 20), (7, .bp 7 0), (8, .sl Y1 h0), (9, .int .i64 (h0.length : Int)), (10, .int .i64 st1.2), (16, .bool v0)] [(7, .box 55 [.int .i64 (h0.getD st1.2.toNat (0, 0, 0, 0, 0, 0)).1, .int .i64 (h0.getD st1.2.toNat (0, 0, 0, 0, 0, 0)).2.1, .int .i64 (h0.getD st1.2.toNat (0, 0, 0, 0, 0, 0)).2.2.1, .int .i64 (h0.getD st1.2.toNat (0, 0, 0, 0, 0, 0)).2.2.2.1, .int .i64 (h0.getD st1.2.toNat (0, 0, 0, 0, 0, 0)).2.2.2.2.1, .int .i64 (h0.getD st1.2.toNat (0, 0, 0, 0, 0, 0)).2.2.2.2.2]), (20, .arr 55 Y1 st1.1), (1000, .box 55 [.int .i64 c0.1, .int .i64 c0.2.1, .int .i64 c0.2.2.1, .int .i64 c0.2.2.2.1, .int .i64 c0.2.2.2.2.1, .int .i64 c0.2.2.2.2.2])] ?_
   refine zB [(1, .fn (.func 121) [] [.bp 1000 0]), (5, .own 20), (7, .bp 7 0), (8, .sl Y1 h0), (9, .int .i64 (h0.length : Int)), (10, .int .i64 st1.2), (16, .bool v0)] [(7, .box 55 [.int .i64 (h0.getD st1.2.toNat (0, 0, 0, 0, 0, 0)).1, .int .i64 (h0.getD st1.2.toNat (0, 0, 0, 0, 0, 0)).2.1, .int .i64 (h0.getD st1.2.toNat (0, 0, 0, 0, 0, 0)).2.2.1, .int .i64 (h0.getD st1.2.toNat (0, 0, 0, 0, 0, 0)).2.2.2.1, .int .i64 (h0.getD st1.2.toNat (0, 0, 0, 0, 0, 0)).2.2.2.2.1, .int .i64 (h0.getD st1.2.toNat (0, 0, 0, 0, 0, 0)).2.2.2.2.2]), (20, .arr 55 Y1 st1.1), (1000, .box 55 [.int .i64 c0.1, .int .i64 c0.2.1, .int .i64 c0.2.2.1, .int .i64 c0.2.2.2.1, .int .i64 c0.2.2.2.2.1, .int .i64 c0.2.2.2.2.2])] ?_
   refine zQ h (fun hb10 h => ?_) (fun hb10 h => ?_)
   ·refine AW.ops ?_
    obtain ⟨c11, h⟩ := ck_some.1 h
    refine zA [(1, .fn (.func 121) [] [.bp 1000 0]), (5, .own 20), (8, .sl Y1 h0), (9, .int .i64 (h0.length : Int)), (10, .int .i64 st1.2)] [(20, .arr 55 Y1 (st1.1 ++ [(h0.getD st1.2.toNat (0, 0, 0, 0, 0, 0))])), (1000, .box 55 [.int .i64 c0.1, .int .i64 c0.2.1, .int .i64 c0.2.2.1, .int .i64 c0.2.2.2.1, .int .i64 c0.2.2.2.2.1, .int .i64 c0.2.2.2.2.2])] ?_
    refine ablock_n ?_
    refine athen_n ?_
    refine AW.ops ?_
    obtain ⟨c12, h⟩ := ck_some.1 h
    refine zA [(1, .fn (.func 121) [] [.bp 1000 0]), (5, .own 20), (8, .sl Y1 h0), (9, .int .i64 (h0.length : Int)), (10, .int .i64 (st1.2 + 1))] [(20, .arr 55 Y1 (st1.1 ++ [(h0.getD st1.2.toNat (0, 0, 0, 0, 0, 0))])), (1000, .box 55 [.int .i64 c0.1, .int .i64 c0.2.1, .int .i64 c0.2.2.1, .int .i64 c0.2.2.2.1, .int .i64 c0.2.2.2.2.1, .int .i64 c0.2.2.2.2.2])] ?_
    obtain rfl := Option.some.inj h
    exact ⟨_, rfl, zL [] [] []⟩
   ·refine zm ?_
    refine athen_n ?_
    refine AW.ops ?_
    obtain ⟨c13, h⟩ := ck_some.1 h
    refine zA [(1, .fn (.func 121) [] [.bp 1000 0]), (5, .own 20), (8, .sl Y1 h0), (9, .int .i64 (h0.length : Int)), (10, .int .i64 (st1.2 + 1))] [(20, .arr 55 Y1 st1.1), (1000, .box 55 [.int .i64 c0.1, .int .i64 c0.2.1, .int .i64 c0.2.2.1, .int .i64 c0.2.2.2.1, .int .i64 c0.2.2.2.2.1, .int .i64 c0.2.2.2.2.2])] ?_
    obtain rfl := Option.some.inj h
    exact ⟨_, rfl, zL [] [] []⟩
  ·refine AW.exit ?_
   refine athen_e ?_
   obtain rfl := Option.some.inj h
   rw [← hd3 _ rfl] at ho2
   have h := ho2
   refine athen_e ?_
   refine ablock_s ?_
   refine athen_n ?_
   exact AW.weaken (zL [] [] []) (hk_history_those_k1 _ h)

theorem hc_history_width (h0 : ZH) {r : Int} (h : history_width h0 = some r) : HC Try.prog 108 [] [.sl Y1 h0] [] (.int .i64 r) := by
 unfold history_width at h
 refine zH Try.func108 [.tmp 2] 22 ?_
 refine zo ?_
 refine zB [(0, .sl Y1 h0)] [] ?_
 refine zo ?_
 refine zB [(0, .sl Y1 h0), (3, .int .i64 0)] [] ?_
 refine AW.have1 (fun b1 : Int => history_width_k1 b1 = some r) (fun b1 => ⟨fr [(3, .int .i64 b1)], hpGet [], gt⟩) (fun b1 h => ?_) (fun hk_history_width_k1 => ?_)
 ·unfold history_width_k1 at h
  refine zo ?_
  refine zB [(2, .int .i64 b1)] [] ?_
  refine AW.ret ?_
  obtain rfl := Option.some.inj h
  exact zR [] [] []
 ·refine AW.seq ?_
  refine zo ?_
  refine zB [(0, .sl Y1 h0), (3, .int .i64 0), (7, .sl Y1 h0), (8, .int .i64 (h0.length : Int)), (9, .int .i64 0)] [] ?_
  refine AW.block ?_
  obtain ⟨rv5, hw1, ho2⟩ := Option.bind_eq_some_iff.1 h
  refine AW.loopO (history_width_b1 h0) (fun st1 => ⟨fr [(0, .sl Y1 h0), (3, .int .i64 st1.1), (7, .sl Y1 h0), (8, .int .i64 (h0.length : Int)), (9, .int .i64 st1.2)], hpGet [], gt⟩) (0, 0) hw1 (zL [] [] []) ?_
  intro st1 x4 h hd3
  unfold history_width_b1 at h
  refine zo ?_
  refine zB [(0, .sl Y1 h0), (3, .int .i64 st1.1), (7, .sl Y1 h0), (8, .int .i64 (h0.length : Int)), (9, .int .i64 st1.2), (10, .bool (decide (st1.2 < (h0.length : Int))))] [] ?_
  refine AW.seq ?_
  refine zQ h (fun hb6 h => ?_) (fun hb6 h => ?_)
  ·refine zk ?_
   refine AW.seq ?_
   refine AW.block ?_
   refine zo ?_
   obtain ⟨c7, h⟩ := ck_some.1 h
   obtain ⟨c8, h⟩ := ck_some.1 h
   refine zB [(0, .sl Y1 h0), (3, .int .i64 st1.1), (5, .bp 5 0), (7, .sl Y1 h0), (8, .int .i64 (h0.length : Int)), (9, .int .i64 st1.2)] [(5, .box 55 [.int .i64 (h0.getD st1.2.toNat (0, 0, 0, 0, 0, 0)).1, .int .i64 (h0.getD st1.2.toNat (0, 0, 0, 0, 0, 0)).2.1, .int .i64 (h0.getD st1.2.toNat (0, 0, 0, 0, 0, 0)).2.2.1, .int .i64 (h0.getD st1.2.toNat (0, 0, 0, 0, 0, 0)).2.2.2.1, .int .i64 (h0.getD st1.2.toNat (0, 0, 0, 0, 0, 0)).2.2.2.2.1, .int .i64 (h0.getD st1.2.toNat (0, 0, 0, 0, 0, 0)).2.2.2.2.2])] ?_
   refine zo ?_
   refine zS 2 [(0, .sl Y1 h0), (3, .int .i64 st1.1), (7, .sl Y1 h0), (8, .int .i64 (h0.length : Int)), (9, .int .i64 st1.2), (13, .sl Y1 h0), (14, .fn (.func 121) [] [.bp 5 0])] [(5, .box 55 [.int .i64 (h0.getD st1.2.toNat (0, 0, 0, 0, 0, 0)).1, .int .i64 (h0.getD st1.2.toNat (0, 0, 0, 0, 0, 0)).2.1, .int .i64 (h0.getD st1.2.toNat (0, 0, 0, 0, 0, 0)).2.2.1, .int .i64 (h0.getD st1.2.toNat (0, 0, 0, 0, 0, 0)).2.2.2.1, .int .i64 (h0.getD st1.2.toNat (0, 0, 0, 0, 0, 0)).2.2.2.2.1, .int .i64 (h0.getD st1.2.toNat (0, 0, 0, 0, 0, 0)).2.2.2.2.2])] ?_
   obtain ⟨v0, hv9, h⟩ := Option.bind_eq_some_iff.1 h
   refine zC [] [(1000, 5)] (hc_history_those h0 (h0.getD st1.2.toNat (0, 0, 0, 0, 0, 0)) hv9) [(0, .sl Y1 h0), (3, .int .i64 st1.1), (7, .sl Y1 h0), (8, .int .i64 (h0.length : Int)), (9, .int .i64 st1.2), (15, .own 25000)] [(25000, .arr 55 Y1 v0)] ?_
   refine zB [(0, .sl Y1 h0), (3, .int .i64 st1.1), (6, .own 25000), (7, .sl Y1 h0), (8, .int .i64 (h0.length : Int)), (9, .int .i64 st1.2)] [(25000, .arr 55 Y1 v0)] ?_
   refine AW.ops ?_
   refine zA [(0, .sl Y1 h0), (3, .int .i64 (max st1.1 (v0.length : Int))), (7, .sl Y1 h0), (8, .int .i64 (h0.length : Int)), (9, .int .i64 st1.2)] [] ?_
   refine ablock_n ?_
   refine athen_n ?_
   refine AW.ops ?_
   obtain ⟨c10, h⟩ := ck_some.1 h
   refine zA [(0, .sl Y1 h0), (3, .int .i64 (max st1.1 (v0.length : Int))), (7, .sl Y1 h0), (8, .int .i64 (h0.length : Int)), (9, .int .i64 (st1.2 + 1))] [] ?_
   obtain rfl := Option.some.inj h
   exact ⟨_, rfl, zL [] [] []⟩
  ·refine AW.exit ?_
   refine athen_e ?_
   obtain rfl := Option.some.inj h
   rw [← hd3 _ rfl] at ho2
   have h := ho2
   refine athen_e ?_
   refine ablock_s ?_
   refine athen_n ?_
   exact AW.weaken (zL [] [] []) (hk_history_width_k1 _ h)

theorem hc_history_Alone_1 (a0 : ZH) {r : Bool} (h : history_Alone_1 a0 = some r) : HC Try.prog 110 [(1000, .box 23 [.sl Y1 a0])] [.bp 1000 0] [(1000, .box 23 [.sl Y1 a0])] (.bool r) := by
 unfold history_Alone_1 at h
 refine zH Try.func110 [.tmp 1] 5 ?_
 refine zo ?_
 refine zB [(0, .bp 1000 0)] [(1000, .box 23 [.sl Y1 a0])] ?_
 refine zo ?_
 refine zS 1 [(2, .sl Y1 a0)] [(1000, .box 23 [.sl Y1 a0])] ?_
 obtain ⟨v0, hv1, h⟩ := Option.bind_eq_some_iff.1 h
 refine zC [] [] (hc_history_width a0 hv1) [(3, .int .i64 v0)] [(1000, .box 23 [.sl Y1 a0])] ?_
 refine zB [(1, .bool (decide (v0 ≤ 1)))] [(1000, .box 23 [.sl Y1 a0])] ?_
 refine AW.ret ?_
 obtain rfl := Option.some.inj h
 exact zR [] [] []

theorem hc_history_told_10 (c0 : ZH) {r : Bool} (h : history_told_10 c0 = some r) : HC Try.prog 58 [(1000, .box 23 [.sl Y1 c0])] [.int .i64 0, .fn (.func 110) [] [.bp 1000 0]] [(1000, .box 23 [.sl Y1 c0])] (.tup [.bool r, .int .i64 0]) := by
 unfold history_told_10 at h
 refine zH Try.func58 [.tmp 4, .tmp 5] 13 ?_
 refine zo ?_
 refine zB [(0, .int .i64 0), (1, .fn (.func 110) [] [.bp 1000 0])] [(1000, .box 23 [.sl Y1 c0])] ?_
 refine AW.seq ?_
 refine zo ?_
 refine zB [(0, .int .i64 0), (1, .fn (.func 110) [] [.bp 1000 0]), (8, .bool false)] [(1000, .box 23 [.sl Y1 c0])] ?_
 refine AW.cond (b := false) rfl (fun hb1 => by cases hb1) (fun _ => ?_)
 refine zk ?_
 refine zo ?_
 refine zS 1 [(11, .fn (.func 110) [] [.bp 1000 0])] [(1000, .box 23 [.sl Y1 c0])] ?_
 obtain ⟨v0, hv2, h⟩ := Option.bind_eq_some_iff.1 h
 refine zC [] [(1000, 1000)] (hc_history_Alone_1 c0 hv2) [(12, .bool v0)] [(1000, .box 23 [.sl Y1 c0])] ?_
 refine zB [(4, .bool v0), (5, .int .i64 0)] [(1000, .box 23 [.sl Y1 c0])] ?_
 refine AW.ret ?_
 obtain rfl := Option.some.inj h
 exact zR [] [] []

theorem hc_history_told_11 (err : Int) (c0 : ZH) (hnz_err : decide (err = 0) = false) {r : Unit} (h : history_told_11 err c0 = some r) : HC Try.prog 58 [(1000, .box 23 [.sl Y1 c0])] [.int .i64 err, .fn (.func 110) [] [.bp 1000 0]] [(1000, .box 23 [.sl Y1 c0])] (.tup [.bool false, .int .i64 err]) := by
 unfold history_told_11 at h
 refine zH Try.func58 [.tmp 4, .tmp 5] 13 ?_
 refine zo ?_
 refine zB [(0, .int .i64 err), (1, .fn (.func 110) [] [.bp 1000 0])] [(1000, .box 23 [.sl Y1 c0])] ?_
 refine AW.seq ?_
 refine zo ?_
 refine zB [(0, .int .i64 err), (1, .fn (.func 110) [] [.bp 1000 0]), (8, .bool true)] [(1000, .box 23 [.sl Y1 c0])] ?_
 refine AW.cond (b := true) rfl (fun _ => ?_) (fun hb1 => by cases hb1)
 refine zo ?_
 refine zB [(0, .int .i64 err), (6, .bool false)] [(1000, .box 23 [.sl Y1 c0])] ?_
 refine zo ?_
 refine zB [(4, .bool false), (5, .int .i64 err)] [(1000, .box 23 [.sl Y1 c0])] ?_
 refine zr ?_
 obtain rfl := Option.some.inj h
 exact zR [] [] []

theorem hc_history_Alone (h0 : ZH) {r : Bool × Int} (h : history_Alone h0 = some r) : HC Try.prog 50 [] [.sl Y1 h0] [] (.tup [.bool r.1, .int .i64 r.2]) := by
 unfold history_Alone at h
 refine zH Try.func50 [.tmp 2, .tmp 3] 10 ?_
 refine zo ?_
 refine zB [(1, .bp 1 0)] [(1, .box 23 [.sl Y1 h0])] ?_
 refine zo ?_
 refine zS 1 [(1, .bp 1 0), (4, .sl Y1 h0)] [(1, .box 23 [.sl Y1 h0])] ?_
 obtain ⟨v0, hv1, h⟩ := Option.bind_eq_some_iff.1 h
 refine zC [] [] (hc_history_check h0 true hv1) [(1, .bp 1 0), (5, .int .i64 v0)] [(1, .box 23 [.sl Y1 h0])] ?_
 refine zS 1 [(5, .int .i64 v0), (6, .fn (.func 110) [] [.bp 1 0])] [(1, .box 23 [.sl Y1 h0])] ?_
 rcases Bool.eq_false_or_eq_true (decide (v0 = 0)) with hb2 | hb2
 ·rw [if_pos hb2] at h
  have hz3 : v0 = 0 := by simpa using hb2
  refine zT [(5, .int .i64 0), (6, .fn (.func 110) [] [.bp 1 0])] [(1, .box 23 [.sl Y1 h0])] gt ?_
  obtain ⟨v0_2, hv4, h⟩ := Option.bind_eq_some_iff.1 h
  refine zC [] [(1000, 1)] (hc_history_told_10 h0 hv4) [(7, .tup [.bool v0_2, .int .i64 0])] [] ?_
  refine zB [(2, .bool v0_2), (3, .int .i64 0)] [] ?_
  refine AW.ret ?_
  obtain rfl := Option.some.inj h
  exact zR [] [] []
 ·rw [if_neg (Bool.eq_false_iff.1 hb2)] at h
  refine zT [(5, .int .i64 v0), (6, .fn (.func 110) [] [.bp 1 0])] [(1, .box 23 [.sl Y1 h0])] gt ?_
  obtain ⟨v0_3, hv5, h⟩ := Option.bind_eq_some_iff.1 h
  refine zC [] [(1000, 1)] (hc_history_told_11 v0 h0 hb2 hv5) [(7, .tup [.bool false, .int .i64 v0])] [] ?_
  refine zB [(2, .bool false), (3, .int .i64 v0)] [] ?_
  refine AW.ret ?_
  obtain rfl := Option.some.inj h
  exact zR [] [] []

theorem hc_history_states_answer_2 (specs : ZS) (c : Int × Int × Int × Int × Int × Int) (s : Int × Int) {r : Int × Int × Int} (h : history_states_answer_2 specs c s = some r) : HC Try.prog 113 [(1000, .box 92 [.int .i64 s.1, .int .i64 s.2])] [.bp 1000 0, .sl Y0 specs, .agg [.int .i64 c.1, .int .i64 c.2.1, .int .i64 c.2.2.1, .int .i64 c.2.2.2.1, .int .i64 c.2.2.2.2.1, .int .i64 c.2.2.2.2.2]] [(1000, .box 92 [.int .i64 r.2.1, .int .i64 r.2.2])] (.int .i64 r.1) := by
 unfold history_states_answer_2 at h
 refine zH Try.func113 [.tmp 6] 43 ?_
 refine zo ?_
 refine zB [(0, .bp 1000 0), (1, .sl Y0 specs), (5, .bp 5 0)] [(5, .box 55 [.int .i64 c.1, .int .i64 c.2.1, .int .i64 c.2.2.1, .int .i64 c.2.2.2.1, .int .i64 c.2.2.2.2.1, .int .i64 c.2.2.2.2.2]), (1000, .box 92 [.int .i64 s.1, .int .i64 s.2])] ?_
 refine AW.have1 (fun b1 : Int × Int × Int × (List (List Int)) × (List (List Int)) × Int => history_states_answer_2_k1 c s b1 = some r) (fun b1 => ⟨fr [(0, .bp 1000 0), (5, .bp 5 0), (7, .bp 7 0), (8, .int .i64 b1.2.2.2.2.2)], hpGet [(5, .box 55 [.int .i64 c.1, .int .i64 b1.1, .int .i64 c.2.2.1, .int .i64 c.2.2.2.1, .int .i64 c.2.2.2.2.1, .int .i64 c.2.2.2.2.2]), (7, .box 64 [.int .i64 b1.2.1, .int .i64 b1.2.2.1, .sl (.sl (.int .i64)) b1.2.2.2.1, .sl (.sl (.int .i64)) b1.2.2.2.2.1]), (1000, .box 92 [.int .i64 s.1, .int .i64 s.2])], gt⟩) (fun b1 h => ?_) (fun hk_history_states_answer_2_k1 => ?_)
 ·unfold history_states_answer_2_k1 at h
  refine AW.have1 (fun b2 : Int × Int × Int => history_states_answer_2_k2 c b1 b2 = some r) (fun b2 => ⟨fr [(5, .bp 5 0), (7, .bp 7 0), (8, .int .i64 b1.2.2.2.2.2)], hpGet [(5, .box 55 [.int .i64 c.1, .int .i64 b2.1, .int .i64 c.2.2.1, .int .i64 c.2.2.2.1, .int .i64 c.2.2.2.2.1, .int .i64 c.2.2.2.2.2]), (7, .box 64 [.int .i64 b1.2.1, .int .i64 b1.2.2.1, .sl (.sl (.int .i64)) b1.2.2.2.1, .sl (.sl (.int .i64)) b1.2.2.2.2.1]), (1000, .box 92 [.int .i64 b2.2.1, .int .i64 b2.2.2])], gt⟩) (fun b2 h => ?_) (fun hk_history_states_answer_2_k2 => ?_)
  ·unfold history_states_answer_2_k2 at h
   refine AW.seq ?_
   refine AW.draw tab_ok mixed_ok [] [] (by decide) (by kernel_rfl) ?_
   obtain ⟨c2, h⟩ := ck_some.1 h
   obtain ⟨c3, h⟩ := ck_some.1 h
   refine adops_cut 6 (fun K' hK1 => ?_)
   try dsimp only [List.drop_succ_cons, List.drop_zero, List.take_succ_cons, List.take_zero]
   simp only [go_sem]
   repeat with_reducible refine zN ?_
   refine hK1 _ ?_
   obtain ⟨c5, h⟩ := ck_some.1 h
   obtain ⟨c6, h⟩ := ck_some.1 h
   refine adops_cut 4 (fun K' hK4 => ?_)
   try dsimp only [List.drop_succ_cons, List.drop_zero, List.take_succ_cons, List.take_zero]
   simp only [go_sem]
   repeat with_reducible refine zN ?_
   refine hK4 _ ?_
   refine adops_nil ?_
   refine athen_n ?_
   refine zV [(6, .int .i64 ((b1.2.2.2.2.1.getD b1.2.2.2.2.2.toNat []).getD c.2.2.1.toNat 0))] [(1000, .box 92 [.int .i64 b2.2.1, .int .i64 b2.2.2])] gt ?_
   refine AW.ret ?_
   obtain rfl := Option.some.inj h
   exact zR [] [] []
  ·refine AW.seq ?_
   refine AW.draw tab_ok mixed_ok [(14, [1000])] [] (by decide) (by kernel_rfl) ?_
   refine adops_cut 6 (fun K' hK7 => ?_)
   try dsimp only [List.drop_succ_cons, List.drop_zero, List.take_succ_cons, List.take_zero]
   simp only [go_sem]
   repeat with_reducible refine zN ?_
   refine hK7 _ ?_
   obtain ⟨c9, h⟩ := ck_some.1 h
   obtain ⟨c10, h⟩ := ck_some.1 h
   obtain ⟨c11, h⟩ := ck_some.1 h
   obtain ⟨c12, h⟩ := ck_some.1 h
   refine adops_cut 6 (fun K' hK8 => ?_)
   try dsimp only [List.drop_succ_cons, List.drop_zero, List.take_succ_cons, List.take_zero]
   simp only [go_sem]
   repeat with_reducible refine zN ?_
   refine hK8 _ ?_
   obtain ⟨c14, h⟩ := ck_some.1 h
   obtain ⟨c15, h⟩ := ck_some.1 h
   refine adops_cut 1 (fun K' hK13 => ?_)
   try dsimp only [List.drop_succ_cons, List.drop_zero, List.take_succ_cons, List.take_zero]
   simp only [go_sem]
   repeat with_reducible refine zN ?_
   refine hK13 _ ?_
   rcases Bool.eq_false_or_eq_true (decide (b1.1 = 0)) with hb16 | hb16
   ·rw [if_pos hb16] at h
    have hz17 : b1.1 = 0 := by simpa using hb16
    refine adops_cut 2 (fun K' hK18 => ?_)
    try dsimp only [List.drop_succ_cons, List.drop_zero, List.take_succ_cons, List.take_zero]
    simp only [go_sem, hb16, hz17]
    repeat with_reducible refine zN ?_
    refine hK18 _ ?_
    refine adops_nil ?_
    refine athen_n ?_
    refine zV [(5, .bp 5 0), (7, .bp 7 0), (8, .int .i64 b1.2.2.2.2.2)] [(5, .box 55 [.int .i64 c.1, .int .i64 0, .int .i64 c.2.2.1, .int .i64 c.2.2.2.1, .int .i64 c.2.2.2.2.1, .int .i64 c.2.2.2.2.2]), (7, .box 64 [.int .i64 b1.2.1, .int .i64 b1.2.2.1, .sl (.sl (.int .i64)) b1.2.2.2.1, .sl (.sl (.int .i64)) b1.2.2.2.2.1]), (1000, .box 92 [.int .i64 ((b1.2.2.2.1.getD b1.2.2.2.2.2.toNat []).getD c.2.2.1.toNat 0), .int .i64 s.2])] gt ?_
    exact AW.weaken (zL [] [] []) (hk_history_states_answer_2_k2 _ h)
   ·rw [if_neg (Bool.eq_false_iff.1 hb16)] at h
    have hz17 : b1.1 = 1 := by have := of_decide_eq_false hb16; omega
    refine adops_cut 2 (fun K' hK19 => ?_)
    try dsimp only [List.drop_succ_cons, List.drop_zero, List.take_succ_cons, List.take_zero]
    simp only [go_sem, hb16, hz17]
    repeat with_reducible refine zN ?_
    refine hK19 _ ?_
    refine adops_nil ?_
    refine athen_n ?_
    refine zV [(5, .bp 5 0), (7, .bp 7 0), (8, .int .i64 b1.2.2.2.2.2)] [(5, .box 55 [.int .i64 c.1, .int .i64 1, .int .i64 c.2.2.1, .int .i64 c.2.2.2.1, .int .i64 c.2.2.2.2.1, .int .i64 c.2.2.2.2.2]), (7, .box 64 [.int .i64 b1.2.1, .int .i64 b1.2.2.1, .sl (.sl (.int .i64)) b1.2.2.2.1, .sl (.sl (.int .i64)) b1.2.2.2.2.1]), (1000, .box 92 [.int .i64 s.1, .int .i64 ((b1.2.2.2.1.getD b1.2.2.2.2.2.toNat []).getD c.2.2.1.toNat 0)])] gt ?_
    exact AW.weaken (zL [] [] []) (hk_history_states_answer_2_k2 _ h)
 ·refine AW.seq ?_
  refine AW.draw tab_ok mixed_ok [(11, [7]), (12, [7])] [(0, []), (1, [5]), (2, [5]), (3, []), (4, []), (5, [1000]), (6, [5]), (7, [5]), (8, [1000]), (9, [1000, 999999]), (10, [1000]), (100012, [])] (by decide) (by kernel_rfl) ?_
  obtain ⟨c21, h⟩ := ck_some.1 h
  obtain ⟨c22, h⟩ := ck_some.1 h
  refine adops_cut 6 (fun K' hK20 => ?_)
  try dsimp only [List.drop_succ_cons, List.drop_zero, List.take_succ_cons, List.take_zero]
  simp only [go_sem]
  repeat with_reducible refine zN ?_
  refine hK20 _ ?_
  obtain ⟨c24, h⟩ := ck_some.1 h
  obtain ⟨c25, h⟩ := ck_some.1 h
  refine adops_cut 3 (fun K' hK23 => ?_)
  try dsimp only [List.drop_succ_cons, List.drop_zero, List.take_succ_cons, List.take_zero]
  simp only [go_sem]
  repeat with_reducible refine zN ?_
  refine hK23 _ ?_
  rcases Bool.eq_false_or_eq_true (decide (c.2.1 = 0)) with hb26 | hb26
  ·rw [if_pos hb26] at h
   have hz27 : c.2.1 = 0 := by simpa using hb26
   refine adops_cut 5 (fun K' hK28 => ?_)
   try dsimp only [List.drop_succ_cons, List.drop_zero, List.take_succ_cons, List.take_zero]
   simp only [go_sem, hb26, hz27]
   repeat with_reducible refine zN ?_
   refine hK28 _ ?_
   refine adops_nil ?_
   refine athen_n ?_
   refine zV [(0, .bp 1000 0), (5, .bp 5 0), (7, .bp 7 0), (8, .int .i64 s.1)] [(5, .box 55 [.int .i64 c.1, .int .i64 0, .int .i64 c.2.2.1, .int .i64 c.2.2.2.1, .int .i64 c.2.2.2.2.1, .int .i64 c.2.2.2.2.2]), (7, .box 64 [.int .i64 (specs.getD 0 (0, 0, [], [])).1, .int .i64 (specs.getD 0 (0, 0, [], [])).2.1, .sl (.sl (.int .i64)) (specs.getD 0 (0, 0, [], [])).2.2.1, .sl (.sl (.int .i64)) (specs.getD 0 (0, 0, [], [])).2.2.2]), (1000, .box 92 [.int .i64 s.1, .int .i64 s.2])] gt ?_
   exact AW.weaken (zL [] [] []) (hk_history_states_answer_2_k1 _ h)
  ·rw [if_neg (Bool.eq_false_iff.1 hb26)] at h
   have hz27 : c.2.1 = 1 := by have := of_decide_eq_false hb26; omega
   refine adops_cut 5 (fun K' hK29 => ?_)
   try dsimp only [List.drop_succ_cons, List.drop_zero, List.take_succ_cons, List.take_zero]
   simp only [go_sem, hb26, hz27]
   repeat with_reducible refine zN ?_
   refine hK29 _ ?_
   refine adops_nil ?_
   refine athen_n ?_
   refine zV [(0, .bp 1000 0), (5, .bp 5 0), (7, .bp 7 0), (8, .int .i64 s.2)] [(5, .box 55 [.int .i64 c.1, .int .i64 1, .int .i64 c.2.2.1, .int .i64 c.2.2.2.1, .int .i64 c.2.2.2.2.1, .int .i64 c.2.2.2.2.2]), (7, .box 64 [.int .i64 (specs.getD 1 (0, 0, [], [])).1, .int .i64 (specs.getD 1 (0, 0, [], [])).2.1, .sl (.sl (.int .i64)) (specs.getD 1 (0, 0, [], [])).2.2.1, .sl (.sl (.int .i64)) (specs.getD 1 (0, 0, [], [])).2.2.2]), (1000, .box 92 [.int .i64 s.1, .int .i64 s.2])] gt ?_
   exact AW.weaken (zL [] [] []) (hk_history_states_answer_2_k1 _ h)

theorem hc_history_Orders_1 (a0 : ZS) (a1 : ZH) {r : Int} (h : history_Orders_1 a0 a1 = some r) : HC Try.prog 97 [(1000, .box 22 [.sl Y0 a0]), (1001, .box 23 [.sl Y1 a1])] [.bp 1000 0, .bp 1001 0] [(1000, .box 22 [.sl Y0 a0]), (1001, .box 23 [.sl Y1 a1])] (.int .i64 r) := by
 unfold history_Orders_1 at h
 refine zH Try.func97 [.tmp 2] 8 ?_
 refine zo ?_
 refine zB [(0, .bp 1000 0), (1, .bp 1001 0)] [(1000, .box 22 [.sl Y0 a0]), (1001, .box 23 [.sl Y1 a1])] ?_
 refine zo ?_
 refine zS 2 [(3, .sl Y0 a0), (4, .sl Y1 a1)] [(1000, .box 22 [.sl Y0 a0]), (1001, .box 23 [.sl Y1 a1])] ?_
 obtain ⟨v0, hv1, h⟩ := Option.bind_eq_some_iff.1 h
 refine zC [] [] (hc_history_newSearch a0 a1 hv1) [(5, .agg [.sl Y0 a0, .sl Y1 a1, .fn (.func 77) [] [], .own 15000])] [(1000, .box 22 [.sl Y0 a0]), (1001, .box 23 [.sl Y1 a1]), (15000, .map true false Y2 (.int .i64) [])] ?_
 refine zS 1 [(5, .agg [.sl Y0 a0, .sl Y1 a1, .fn (.func 77) [] [], .own 15000]), (6, .agg [.int .i64 0, .int .i64 0, .int .u64 0])] [(1000, .box 22 [.sl Y0 a0]), (1001, .box 23 [.sl Y1 a1]), (15000, .map true false Y2 (.int .i64) [])] ?_
 obtain ⟨v0_2, hv2, h⟩ := Option.bind_eq_some_iff.1 h
 refine zC [] [(1000, 15000)] (hc_history_search_count fuel a0 a1 ((0, 0), 0) [] hv2) [(7, .int .i64 v0_2.1)] [(1000, .box 22 [.sl Y0 a0]), (1001, .box 23 [.sl Y1 a1])] ?_
 refine zB [(2, .int .i64 v0_2.1)] [(1000, .box 22 [.sl Y0 a0]), (1001, .box 23 [.sl Y1 a1])] ?_
 refine AW.ret ?_
 obtain rfl := Option.some.inj h
 exact zR [] [] []

theorem hc_history_told_19 (c0 : ZS) (c1 : ZH) {r : Int} (h : history_told_19 c0 c1 = some r) : HC Try.prog 96 [(1000, .box 22 [.sl Y0 c0]), (1001, .box 23 [.sl Y1 c1])] [.int .i64 0, .fn (.func 97) [] [.bp 1000 0, .bp 1001 0]] [(1000, .box 22 [.sl Y0 c0]), (1001, .box 23 [.sl Y1 c1])] (.tup [.int .i64 r, .int .i64 0]) := by
 unfold history_told_19 at h
 refine zH Try.func96 [.tmp 4, .tmp 5] 13 ?_
 refine zo ?_
 refine zB [(0, .int .i64 0), (1, .fn (.func 97) [] [.bp 1000 0, .bp 1001 0])] [(1000, .box 22 [.sl Y0 c0]), (1001, .box 23 [.sl Y1 c1])] ?_
 refine AW.seq ?_
 refine zo ?_
 refine zB [(0, .int .i64 0), (1, .fn (.func 97) [] [.bp 1000 0, .bp 1001 0]), (8, .bool false)] [(1000, .box 22 [.sl Y0 c0]), (1001, .box 23 [.sl Y1 c1])] ?_
 refine AW.cond (b := false) rfl (fun hb1 => by cases hb1) (fun _ => ?_)
 refine zk ?_
 refine zo ?_
 refine zS 1 [(11, .fn (.func 97) [] [.bp 1000 0, .bp 1001 0])] [(1000, .box 22 [.sl Y0 c0]), (1001, .box 23 [.sl Y1 c1])] ?_
 obtain ⟨v0, hv2, h⟩ := Option.bind_eq_some_iff.1 h
 refine zC [] [(1000, 1000), (1001, 1001)] (hc_history_Orders_1 c0 c1 hv2) [(12, .int .i64 v0)] [(1000, .box 22 [.sl Y0 c0]), (1001, .box 23 [.sl Y1 c1])] ?_
 refine zB [(4, .int .i64 v0), (5, .int .i64 0)] [(1000, .box 22 [.sl Y0 c0]), (1001, .box 23 [.sl Y1 c1])] ?_
 refine AW.ret ?_
 obtain rfl := Option.some.inj h
 exact zR [] [] []

theorem hc_history_told_20 (err : Int) (c0 : ZS) (c1 : ZH) (hnz_err : decide (err = 0) = false) {r : Unit} (h : history_told_20 err c0 c1 = some r) : HC Try.prog 96 [(1000, .box 22 [.sl Y0 c0]), (1001, .box 23 [.sl Y1 c1])] [.int .i64 err, .fn (.func 97) [] [.bp 1000 0, .bp 1001 0]] [(1000, .box 22 [.sl Y0 c0]), (1001, .box 23 [.sl Y1 c1])] (.tup [.int .i64 0, .int .i64 err]) := by
 unfold history_told_20 at h
 refine zH Try.func96 [.tmp 4, .tmp 5] 13 ?_
 refine zo ?_
 refine zB [(0, .int .i64 err), (1, .fn (.func 97) [] [.bp 1000 0, .bp 1001 0])] [(1000, .box 22 [.sl Y0 c0]), (1001, .box 23 [.sl Y1 c1])] ?_
 refine AW.seq ?_
 refine zo ?_
 refine zB [(0, .int .i64 err), (1, .fn (.func 97) [] [.bp 1000 0, .bp 1001 0]), (8, .bool true)] [(1000, .box 22 [.sl Y0 c0]), (1001, .box 23 [.sl Y1 c1])] ?_
 refine AW.cond (b := true) rfl (fun _ => ?_) (fun hb1 => by cases hb1)
 refine zo ?_
 refine zB [(0, .int .i64 err), (6, .int .i64 0)] [(1000, .box 22 [.sl Y0 c0]), (1001, .box 23 [.sl Y1 c1])] ?_
 refine zo ?_
 refine zB [(4, .int .i64 0), (5, .int .i64 err)] [(1000, .box 22 [.sl Y0 c0]), (1001, .box 23 [.sl Y1 c1])] ?_
 refine zr ?_
 obtain rfl := Option.some.inj h
 exact zR [] [] []

theorem hc_history_Orders (specs : ZS) (h0 : ZH) {r : Int × Int} (h : history_Orders specs h0 = some r) : HC Try.prog 39 [] [.sl Y0 specs, .sl Y1 h0] [] (.tup [.int .i64 r.1, .int .i64 r.2]) := by
 unfold history_Orders at h
 refine zH Try.func39 [.tmp 4, .tmp 5] 13 ?_
 refine zo ?_
 refine zB [(2, .bp 2 0), (3, .bp 3 0)] [(2, .box 22 [.sl Y0 specs]), (3, .box 23 [.sl Y1 h0])] ?_
 refine zo ?_
 refine zS 2 [(2, .bp 2 0), (3, .bp 3 0), (6, .sl Y0 specs), (7, .sl Y1 h0)] [(2, .box 22 [.sl Y0 specs]), (3, .box 23 [.sl Y1 h0])] ?_
 obtain ⟨v0, hv1, h⟩ := Option.bind_eq_some_iff.1 h
 refine zC [] [] (hc_history_checkFor specs h0 hv1) [(2, .bp 2 0), (3, .bp 3 0), (8, .int .i64 v0)] [(2, .box 22 [.sl Y0 specs]), (3, .box 23 [.sl Y1 h0])] ?_
 refine zS 1 [(8, .int .i64 v0), (9, .fn (.func 97) [] [.bp 2 0, .bp 3 0])] [(2, .box 22 [.sl Y0 specs]), (3, .box 23 [.sl Y1 h0])] ?_
 rcases Bool.eq_false_or_eq_true (decide (v0 = 0)) with hb2 | hb2
 ·rw [if_pos hb2] at h
  have hz3 : v0 = 0 := by simpa using hb2
  refine zT [(8, .int .i64 0), (9, .fn (.func 97) [] [.bp 2 0, .bp 3 0])] [(2, .box 22 [.sl Y0 specs]), (3, .box 23 [.sl Y1 h0])] gt ?_
  obtain ⟨v0_2, hv4, h⟩ := Option.bind_eq_some_iff.1 h
  refine zC [] [(1000, 2), (1001, 3)] (hc_history_told_19 specs h0 hv4) [(10, .tup [.int .i64 v0_2, .int .i64 0])] [] ?_
  refine zB [(4, .int .i64 v0_2), (5, .int .i64 0)] [] ?_
  refine AW.ret ?_
  obtain rfl := Option.some.inj h
  exact zR [] [] []
 ·rw [if_neg (Bool.eq_false_iff.1 hb2)] at h
  refine zT [(8, .int .i64 v0), (9, .fn (.func 97) [] [.bp 2 0, .bp 3 0])] [(2, .box 22 [.sl Y0 specs]), (3, .box 23 [.sl Y1 h0])] gt ?_
  obtain ⟨v0_3, hv5, h⟩ := Option.bind_eq_some_iff.1 h
  refine zC [] [(1000, 2), (1001, 3)] (hc_history_told_20 v0 specs h0 hb2 hv5) [(10, .tup [.int .i64 0, .int .i64 v0])] [] ?_
  refine zB [(4, .int .i64 0), (5, .int .i64 v0)] [] ?_
  refine AW.ret ?_
  obtain rfl := Option.some.inj h
  exact zR [] [] []

theorem hc_lineallaw02_isFor (specs : ZS) (h0 : ZH) {r : Bool} (h : lineallaw02_isFor specs h0 = some r) : HC Try.prog 56 [] [.sl Y0 specs, .sl Y1 h0] [] (.bool r) := by
 unfold lineallaw02_isFor at h
 refine zH Try.func56 [.tmp 4] 18 ?_
 refine zo ?_
 refine zB [(0, .sl Y0 specs), (1, .sl Y1 h0)] [] ?_
 refine zo ?_
 refine zS 2 [(8, .sl Y0 specs), (9, .sl Y1 h0)] [] ?_
 obtain ⟨v0, hv1, h⟩ := Option.bind_eq_some_iff.1 h
 refine zC [] [] (hc_linealref02_For specs h0 hv1) [(10, .tup [.bool v0.1, .int .i64 v0.2])] [] ?_
 refine zB [(5, .bool v0.1), (6, .int .i64 v0.2)] [] ?_
 refine zo ?_
 refine zS 3 [(5, .bool v0.1), (15, .bool (decide (v0.2 = 0)))] [] ?_
 rcases zI h with ⟨hb2, h⟩ | ⟨hb2, h⟩
 ·refine zB [(4, .bool v0.1)] [] ?_
  refine AW.ret ?_
  obtain rfl := Option.some.inj h
  exact zR [] [] []
 ·refine zB [(4, .bool false)] [] ?_
  refine AW.ret ?_
  obtain rfl := Option.some.inj h
  exact zR [] [] []

theorem hc_history_Linear_1 (a0 : ZS) (a1 : ZH) {r : Bool} (h : history_Linear_1 a0 a1 = some r) : HC Try.prog 93 [(1000, .box 22 [.sl Y0 a0]), (1001, .box 23 [.sl Y1 a1])] [.bp 1000 0, .bp 1001 0] [(1000, .box 22 [.sl Y0 a0]), (1001, .box 23 [.sl Y1 a1])] (.bool r) := by
 unfold history_Linear_1 at h
 refine zH Try.func93 [.tmp 2] 9 ?_
 refine zo ?_
 refine zB [(0, .bp 1000 0), (1, .bp 1001 0)] [(1000, .box 22 [.sl Y0 a0]), (1001, .box 23 [.sl Y1 a1])] ?_
 refine zo ?_
 refine zS 2 [(3, .sl Y0 a0), (4, .sl Y1 a1)] [(1000, .box 22 [.sl Y0 a0]), (1001, .box 23 [.sl Y1 a1])] ?_
 obtain ⟨v0, hv1, h⟩ := Option.bind_eq_some_iff.1 h
 refine zC [] [] (hc_history_newSearch a0 a1 hv1) [(5, .agg [.sl Y0 a0, .sl Y1 a1, .fn (.func 77) [] [], .own 15000])] [(1000, .box 22 [.sl Y0 a0]), (1001, .box 23 [.sl Y1 a1]), (15000, .map true false Y2 (.int .i64) [])] ?_
 refine zS 1 [(5, .agg [.sl Y0 a0, .sl Y1 a1, .fn (.func 77) [] [], .own 15000]), (6, .agg [.int .i64 0, .int .i64 0, .int .u64 0])] [(1000, .box 22 [.sl Y0 a0]), (1001, .box 23 [.sl Y1 a1]), (15000, .map true false Y2 (.int .i64) [])] ?_
 obtain ⟨v0_2, hv2, h⟩ := Option.bind_eq_some_iff.1 h
 refine zC [] [(1000, 15000)] (hc_history_search_count fuel a0 a1 ((0, 0), 0) [] hv2) [(7, .int .i64 v0_2.1)] [(1000, .box 22 [.sl Y0 a0]), (1001, .box 23 [.sl Y1 a1])] ?_
 refine zB [(2, .bool (decide (0 < v0_2.1)))] [(1000, .box 22 [.sl Y0 a0]), (1001, .box 23 [.sl Y1 a1])] ?_
 refine AW.ret ?_
 obtain rfl := Option.some.inj h
 exact zR [] [] []

theorem hc_history_told_21 (c0 : ZS) (c1 : ZH) {r : Bool} (h : history_told_21 c0 c1 = some r) : HC Try.prog 58 [(1000, .box 22 [.sl Y0 c0]), (1001, .box 23 [.sl Y1 c1])] [.int .i64 0, .fn (.func 93) [] [.bp 1000 0, .bp 1001 0]] [(1000, .box 22 [.sl Y0 c0]), (1001, .box 23 [.sl Y1 c1])] (.tup [.bool r, .int .i64 0]) := by
 unfold history_told_21 at h
 refine zH Try.func58 [.tmp 4, .tmp 5] 13 ?_
 refine zo ?_
 refine zB [(0, .int .i64 0), (1, .fn (.func 93) [] [.bp 1000 0, .bp 1001 0])] [(1000, .box 22 [.sl Y0 c0]), (1001, .box 23 [.sl Y1 c1])] ?_
 refine AW.seq ?_
 refine zo ?_
 refine zB [(0, .int .i64 0), (1, .fn (.func 93) [] [.bp 1000 0, .bp 1001 0]), (8, .bool false)] [(1000, .box 22 [.sl Y0 c0]), (1001, .box 23 [.sl Y1 c1])] ?_
 refine AW.cond (b := false) rfl (fun hb1 => by cases hb1) (fun _ => ?_)
 refine zk ?_
 refine zo ?_
 refine zS 1 [(11, .fn (.func 93) [] [.bp 1000 0, .bp 1001 0])] [(1000, .box 22 [.sl Y0 c0]), (1001, .box 23 [.sl Y1 c1])] ?_
 obtain ⟨v0, hv2, h⟩ := Option.bind_eq_some_iff.1 h
 refine zC [] [(1000, 1000), (1001, 1001)] (hc_history_Linear_1 c0 c1 hv2) [(12, .bool v0)] [(1000, .box 22 [.sl Y0 c0]), (1001, .box 23 [.sl Y1 c1])] ?_
 refine zB [(4, .bool v0), (5, .int .i64 0)] [(1000, .box 22 [.sl Y0 c0]), (1001, .box 23 [.sl Y1 c1])] ?_
 refine AW.ret ?_
 obtain rfl := Option.some.inj h
 exact zR [] [] []

theorem hc_history_told_22 (err : Int) (c0 : ZS) (c1 : ZH) (hnz_err : decide (err = 0) = false) {r : Unit} (h : history_told_22 err c0 c1 = some r) : HC Try.prog 58 [(1000, .box 22 [.sl Y0 c0]), (1001, .box 23 [.sl Y1 c1])] [.int .i64 err, .fn (.func 93) [] [.bp 1000 0, .bp 1001 0]] [(1000, .box 22 [.sl Y0 c0]), (1001, .box 23 [.sl Y1 c1])] (.tup [.bool false, .int .i64 err]) := by
 unfold history_told_22 at h
 refine zH Try.func58 [.tmp 4, .tmp 5] 13 ?_
 refine zo ?_
 refine zB [(0, .int .i64 err), (1, .fn (.func 93) [] [.bp 1000 0, .bp 1001 0])] [(1000, .box 22 [.sl Y0 c0]), (1001, .box 23 [.sl Y1 c1])] ?_
 refine AW.seq ?_
 refine zo ?_
 refine zB [(0, .int .i64 err), (1, .fn (.func 93) [] [.bp 1000 0, .bp 1001 0]), (8, .bool true)] [(1000, .box 22 [.sl Y0 c0]), (1001, .box 23 [.sl Y1 c1])] ?_
 refine AW.cond (b := true) rfl (fun _ => ?_) (fun hb1 => by cases hb1)
 refine zo ?_
 refine zB [(0, .int .i64 err), (6, .bool false)] [(1000, .box 22 [.sl Y0 c0]), (1001, .box 23 [.sl Y1 c1])] ?_
 refine zo ?_
 refine zB [(4, .bool false), (5, .int .i64 err)] [(1000, .box 22 [.sl Y0 c0]), (1001, .box 23 [.sl Y1 c1])] ?_
 refine zr ?_
 obtain rfl := Option.some.inj h
 exact zR [] [] []

theorem hc_history_Linear (specs : ZS) (h0 : ZH) {r : Bool × Int} (h : history_Linear specs h0 = some r) : HC Try.prog 35 [] [.sl Y0 specs, .sl Y1 h0] [] (.tup [.bool r.1, .int .i64 r.2]) := by
 unfold history_Linear at h
 refine zH Try.func35 [.tmp 4, .tmp 5] 13 ?_
 refine zo ?_
 refine zB [(2, .bp 2 0), (3, .bp 3 0)] [(2, .box 22 [.sl Y0 specs]), (3, .box 23 [.sl Y1 h0])] ?_
 refine zo ?_
 refine zS 2 [(2, .bp 2 0), (3, .bp 3 0), (6, .sl Y0 specs), (7, .sl Y1 h0)] [(2, .box 22 [.sl Y0 specs]), (3, .box 23 [.sl Y1 h0])] ?_
 obtain ⟨v0, hv1, h⟩ := Option.bind_eq_some_iff.1 h
 refine zC [] [] (hc_history_checkFor specs h0 hv1) [(2, .bp 2 0), (3, .bp 3 0), (8, .int .i64 v0)] [(2, .box 22 [.sl Y0 specs]), (3, .box 23 [.sl Y1 h0])] ?_
 refine zS 1 [(8, .int .i64 v0), (9, .fn (.func 93) [] [.bp 2 0, .bp 3 0])] [(2, .box 22 [.sl Y0 specs]), (3, .box 23 [.sl Y1 h0])] ?_
 rcases Bool.eq_false_or_eq_true (decide (v0 = 0)) with hb2 | hb2
 ·rw [if_pos hb2] at h
  have hz3 : v0 = 0 := by simpa using hb2
  refine zT [(8, .int .i64 0), (9, .fn (.func 93) [] [.bp 2 0, .bp 3 0])] [(2, .box 22 [.sl Y0 specs]), (3, .box 23 [.sl Y1 h0])] gt ?_
  obtain ⟨v0_2, hv4, h⟩ := Option.bind_eq_some_iff.1 h
  refine zC [] [(1000, 2), (1001, 3)] (hc_history_told_21 specs h0 hv4) [(10, .tup [.bool v0_2, .int .i64 0])] [] ?_
  refine zB [(4, .bool v0_2), (5, .int .i64 0)] [] ?_
  refine AW.ret ?_
  obtain rfl := Option.some.inj h
  exact zR [] [] []
 ·rw [if_neg (Bool.eq_false_iff.1 hb2)] at h
  refine zT [(8, .int .i64 v0), (9, .fn (.func 93) [] [.bp 2 0, .bp 3 0])] [(2, .box 22 [.sl Y0 specs]), (3, .box 23 [.sl Y1 h0])] gt ?_
  obtain ⟨v0_3, hv5, h⟩ := Option.bind_eq_some_iff.1 h
  refine zC [] [(1000, 2), (1001, 3)] (hc_history_told_22 v0 specs h0 hb2 hv5) [(10, .tup [.bool false, .int .i64 v0])] [] ?_
  refine zB [(4, .bool false), (5, .int .i64 v0)] [] ?_
  refine AW.ret ?_
  obtain rfl := Option.some.inj h
  exact zR [] [] []

theorem hc_history_states_allow_2 (specs : ZS) (c : Int × Int × Int × Int × Int × Int) (s : Int × Int) {r : Bool × Int × Int} (h : history_states_allow_2 specs c s = some r) : HC Try.prog 117 [(1000, .box 92 [.int .i64 s.1, .int .i64 s.2])] [.bp 1000 0, .sl Y0 specs, .agg [.int .i64 c.1, .int .i64 c.2.1, .int .i64 c.2.2.1, .int .i64 c.2.2.2.1, .int .i64 c.2.2.2.2.1, .int .i64 c.2.2.2.2.2]] [(1000, .box 92 [.int .i64 r.2.1, .int .i64 r.2.2])] (.bool r.1) := by
 unfold history_states_allow_2 at h
 refine zH Try.func117 [.tmp 6] 21 ?_
 refine zo ?_
 refine zB [(0, .bp 1000 0), (1, .sl Y0 specs), (5, .bp 5 0)] [(5, .box 55 [.int .i64 c.1, .int .i64 c.2.1, .int .i64 c.2.2.1, .int .i64 c.2.2.2.1, .int .i64 c.2.2.2.2.1, .int .i64 c.2.2.2.2.2]), (1000, .box 92 [.int .i64 s.1, .int .i64 s.2])] ?_
 refine zo ?_
 refine zS 3 [(5, .bp 5 0), (8, .bp 1000 0), (9, .sl Y0 specs), (10, .agg [.int .i64 c.1, .int .i64 c.2.1, .int .i64 c.2.2.1, .int .i64 c.2.2.2.1, .int .i64 c.2.2.2.2.1, .int .i64 c.2.2.2.2.2])] [(5, .box 55 [.int .i64 c.1, .int .i64 c.2.1, .int .i64 c.2.2.1, .int .i64 c.2.2.2.1, .int .i64 c.2.2.2.2.1, .int .i64 c.2.2.2.2.2]), (1000, .box 92 [.int .i64 s.1, .int .i64 s.2])] ?_
 obtain ⟨v0, hv1, h⟩ := Option.bind_eq_some_iff.1 h
 refine zC [] [(1000, 1000)] (hc_history_states_answer_2 specs c s hv1) [(5, .bp 5 0), (11, .int .i64 v0.1)] [(5, .box 55 [.int .i64 c.1, .int .i64 c.2.1, .int .i64 c.2.2.1, .int .i64 c.2.2.2.1, .int .i64 c.2.2.2.2.1, .int .i64 c.2.2.2.2.2]), (1000, .box 92 [.int .i64 v0.2.1, .int .i64 v0.2.2])] ?_
 refine zB [(5, .bp 5 0), (7, .int .i64 v0.1)] [(5, .box 55 [.int .i64 c.1, .int .i64 c.2.1, .int .i64 c.2.2.1, .int .i64 c.2.2.2.1, .int .i64 c.2.2.2.2.1, .int .i64 c.2.2.2.2.2]), (1000, .box 92 [.int .i64 v0.2.1, .int .i64 v0.2.2])] ?_
 refine zo ?_
 refine zS 4 [(5, .bp 5 0), (7, .int .i64 v0.1), (15, .bool (decide (c.2.2.2.2.2 = 0)))] [(5, .box 55 [.int .i64 c.1, .int .i64 c.2.1, .int .i64 c.2.2.1, .int .i64 c.2.2.2.1, .int .i64 c.2.2.2.2.1, .int .i64 c.2.2.2.2.2]), (1000, .box 92 [.int .i64 v0.2.1, .int .i64 v0.2.2])] ?_
 rcases zI h with ⟨hb2, h⟩ | ⟨hb2, h⟩
 ·refine zS 4 [(15, .bool true), (19, .cv (undef))] [(1000, .box 92 [.int .i64 v0.2.1, .int .i64 v0.2.2])] ?_
  refine zB [(6, .bool true)] [(1000, .box 92 [.int .i64 v0.2.1, .int .i64 v0.2.2])] ?_
  refine AW.ret ?_
  obtain rfl := Option.some.inj h
  exact zR [] [] []
 ·refine zB [(6, .bool (decide (v0.1 = c.2.2.2.1)))] [(1000, .box 92 [.int .i64 v0.2.1, .int .i64 v0.2.2])] ?_
  refine AW.ret ?_
  obtain rfl := Option.some.inj h
  exact zR [] [] []

theorem hc_history_allows (specs : ZS) (h0 : ZH) (order : List Int) {r : Bool} (h : history_allows specs h0 order = some r) : HC Try.prog 78 [] [.sl Y0 specs, .sl Y1 h0, .sl (.int .i64) order] [] (.bool r) := by
 unfold history_allows at h
 refine zH Try.func78 [.tmp 6] 24 ?_
 refine zo ?_
 refine zB [(0, .sl Y0 specs), (1, .sl Y1 h0), (2, .sl (.int .i64) order)] [] ?_
 refine zo ?_
 refine zB [(0, .sl Y0 specs), (1, .sl Y1 h0), (2, .sl (.int .i64) order), (7, .bp 7 0)] [(7, .box 92 [.int .i64 0, .int .i64 0])] ?_
 refine AW.have1 (fun _ : Unit => history_allows_k1 = some r) (fun _ => ⟨fr [], hpGet [], gt⟩) (fun _ h => ?_) (fun hk_history_allows_k1 => ?_)
 ·unfold history_allows_k1 at h
  refine zo ?_
  refine zB [(6, .bool true)] [] ?_
  refine AW.ret ?_
  obtain rfl := Option.some.inj h
  exact zR [] [] []
 ·refine AW.seq ?_
  refine zo ?_
  refine zB [(0, .sl Y0 specs), (1, .sl Y1 h0), (7, .bp 7 0), (10, .sl (.int .i64) order), (11, .int .i64 (order.length : Int)), (12, .int .i64 0)] [(7, .box 92 [.int .i64 0, .int .i64 0])] ?_
  refine AW.block ?_
  obtain ⟨rv5, hw1, ho2⟩ := Option.bind_eq_some_iff.1 h
  refine AW.loopO (history_allows_b1 specs h0 order) (fun st1 => ⟨fr [(0, .sl Y0 specs), (1, .sl Y1 h0), (7, .bp 7 0), (10, .sl (.int .i64) order), (11, .int .i64 (order.length : Int)), (12, .int .i64 st1.2.2)], hpGet [(7, .box 92 [.int .i64 st1.1, .int .i64 st1.2.1])], gt⟩) (0, 0, 0) hw1 (zL [] [] []) ?_
  intro st1 x4 h hd3
  unfold history_allows_b1 at h
  refine zo ?_
  refine zB [(0, .sl Y0 specs), (1, .sl Y1 h0), (7, .bp 7 0), (10, .sl (.int .i64) order), (11, .int .i64 (order.length : Int)), (12, .int .i64 st1.2.2), (13, .bool (decide (st1.2.2 < (order.length : Int))))] [(7, .box 92 [.int .i64 st1.1, .int .i64 st1.2.1])] ?_
  refine AW.seq ?_
  refine zQ h (fun hb6 h => ?_) (fun hb6 h => ?_)
  ·refine zk ?_
   refine AW.seq ?_
   refine AW.block ?_
   refine zo ?_
   obtain ⟨c7, h⟩ := ck_some.1 h
   obtain ⟨c8, h⟩ := ck_some.1 h
   refine zB [(0, .sl Y0 specs), (1, .sl Y1 h0), (7, .bp 7 0), (9, .int .i64 (order.getD st1.2.2.toNat 0)), (10, .sl (.int .i64) order), (11, .int .i64 (order.length : Int)), (12, .int .i64 st1.2.2)] [(7, .box 92 [.int .i64 st1.1, .int .i64 st1.2.1])] ?_
   refine zo ?_
   obtain ⟨c9, h⟩ := ck_some.1 h
   obtain ⟨c10, h⟩ := ck_some.1 h
   refine zS 5 [(0, .sl Y0 specs), (1, .sl Y1 h0), (7, .bp 7 0), (10, .sl (.int .i64) order), (11, .int .i64 (order.length : Int)), (12, .int .i64 st1.2.2), (16, .sl Y0 specs), (20, .agg [.int .i64 (h0.getD (order.getD st1.2.2.toNat 0).toNat (0, 0, 0, 0, 0, 0)).1, .int .i64 (h0.getD (order.getD st1.2.2.toNat 0).toNat (0, 0, 0, 0, 0, 0)).2.1, .int .i64 (h0.getD (order.getD st1.2.2.toNat 0).toNat (0, 0, 0, 0, 0, 0)).2.2.1, .int .i64 (h0.getD (order.getD st1.2.2.toNat 0).toNat (0, 0, 0, 0, 0, 0)).2.2.2.1, .int .i64 (h0.getD (order.getD st1.2.2.toNat 0).toNat (0, 0, 0, 0, 0, 0)).2.2.2.2.1, .int .i64 (h0.getD (order.getD st1.2.2.toNat 0).toNat (0, 0, 0, 0, 0, 0)).2.2.2.2.2])] [(7, .box 92 [.int .i64 st1.1, .int .i64 st1.2.1])] ?_
   obtain ⟨v0, hv11, h⟩ := Option.bind_eq_some_iff.1 h
   refine zC [] [(1000, 7)] (hc_history_states_allow_2 specs (h0.getD (order.getD st1.2.2.toNat 0).toNat (0, 0, 0, 0, 0, 0)) (st1.1, st1.2.1) hv11) [(0, .sl Y0 specs), (1, .sl Y1 h0), (7, .bp 7 0), (10, .sl (.int .i64) order), (11, .int .i64 (order.length : Int)), (12, .int .i64 st1.2.2), (21, .bool v0.1)] [(7, .box 92 [.int .i64 v0.2.1, .int .i64 v0.2.2])] ?_
   refine zB [(0, .sl Y0 specs), (1, .sl Y1 h0), (7, .bp 7 0), (10, .sl (.int .i64) order), (11, .int .i64 (order.length : Int)), (12, .int .i64 st1.2.2), (22, .bool (!v0.1))] [(7, .box 92 [.int .i64 v0.2.1, .int .i64 v0.2.2])] ?_
   refine zQ h (fun hb12 h => ?_) (fun hb12 h => ?_)
   ·refine zo ?_
    refine zB [(6, .bool false)] [] ?_
    refine AW.ret ?_
    refine ablock_r ?_
    refine athen_r ?_
    obtain rfl := Option.some.inj h
    rw [← hd3 _ rfl] at ho2
    have h := ho2
    try simp only at h
    refine athen_r ?_
    refine ablock_r ?_
    refine athen_r ?_
    obtain rfl := Option.some.inj h
    exact zR [] [] []
   ·refine zm ?_
    refine athen_n ?_
    refine AW.ops ?_
    obtain ⟨c13, h⟩ := ck_some.1 h
    refine zA [(0, .sl Y0 specs), (1, .sl Y1 h0), (7, .bp 7 0), (10, .sl (.int .i64) order), (11, .int .i64 (order.length : Int)), (12, .int .i64 (st1.2.2 + 1))] [(7, .box 92 [.int .i64 v0.2.1, .int .i64 v0.2.2])] ?_
    obtain rfl := Option.some.inj h
    exact ⟨_, rfl, zL [] [] []⟩
  ·refine AW.exit ?_
   refine athen_e ?_
   obtain rfl := Option.some.inj h
   rw [← hd3 _ rfl] at ho2
   have h := ho2
   try simp only at h
   refine athen_e ?_
   refine ablock_s ?_
   refine athen_n ?_
   exact AW.weaken (zL [] [] []) (hk_history_allows_k1 () h)

theorem hc_history_IsOrder_1 (a0 : ZH) (a1 : List Int) (a2 : ZS) {r : Bool} (h : history_IsOrder_1 a0 a1 a2 = some r) : HC Try.prog 74 [(1000, .box 23 [.sl Y1 a0]), (1001, .box 33 [.sl (.int .i64) a1]), (1002, .box 22 [.sl Y0 a2])] [.bp 1000 0, .bp 1001 0, .bp 1002 0] [(1000, .box 23 [.sl Y1 a0]), (1001, .box 33 [.sl (.int .i64) a1]), (1002, .box 22 [.sl Y0 a2])] (.bool r) := by
 unfold history_IsOrder_1 at h
 refine zH Try.func74 [.tmp 3] 18 ?_
 refine zo ?_
 refine zB [(0, .bp 1000 0), (1, .bp 1001 0), (2, .bp 1002 0)] [(1000, .box 23 [.sl Y1 a0]), (1001, .box 33 [.sl (.int .i64) a1]), (1002, .box 22 [.sl Y0 a2])] ?_
 refine zo ?_
 refine zS 2 [(0, .bp 1000 0), (1, .bp 1001 0), (2, .bp 1002 0), (4, .sl Y1 a0), (5, .sl (.int .i64) a1)] [(1000, .box 23 [.sl Y1 a0]), (1001, .box 33 [.sl (.int .i64) a1]), (1002, .box 22 [.sl Y0 a2])] ?_
 obtain ⟨v0, hv1, h⟩ := Option.bind_eq_some_iff.1 h
 refine zC [] [] (hc_history_isOrder a0 a1 hv1) [(0, .bp 1000 0), (1, .bp 1001 0), (2, .bp 1002 0), (6, .bool v0)] [(1000, .box 23 [.sl Y1 a0]), (1001, .box 33 [.sl (.int .i64) a1]), (1002, .box 22 [.sl Y0 a2])] ?_
 refine zS 1 [(0, .bp 1000 0), (1, .bp 1001 0), (2, .bp 1002 0), (7, .bool v0)] [(1000, .box 23 [.sl Y1 a0]), (1001, .box 33 [.sl (.int .i64) a1]), (1002, .box 22 [.sl Y0 a2])] ?_
 rcases zI h with ⟨hb2, h⟩ | ⟨hb2, h⟩
 ·refine zS 2 [(0, .bp 1000 0), (1, .bp 1001 0), (2, .bp 1002 0), (7, .bool true), (8, .sl Y1 a0), (9, .sl (.int .i64) a1)] [(1000, .box 23 [.sl Y1 a0]), (1001, .box 33 [.sl (.int .i64) a1]), (1002, .box 22 [.sl Y0 a2])] ?_
  obtain ⟨v0_2, hv3, h⟩ := Option.bind_eq_some_iff.1 h
  refine zG [] [] (hc_history_keeps a0 a1 hv3) [(0, .bp 1000 0), (1, .bp 1001 0), (2, .bp 1002 0), (7, .bool true), (10, .bool v0_2)] [(1000, .box 23 [.sl Y1 a0]), (1001, .box 33 [.sl (.int .i64) a1]), (1002, .box 22 [.sl Y0 a2])] ?_
  refine zS 2 [(0, .bp 1000 0), (1, .bp 1001 0), (2, .bp 1002 0), (12, .bool v0_2)] [(1000, .box 23 [.sl Y1 a0]), (1001, .box 33 [.sl (.int .i64) a1]), (1002, .box 22 [.sl Y0 a2])] ?_
  rcases zI h with ⟨hb4, h⟩ | ⟨hb4, h⟩
  ·refine zS 3 [(12, .bool true), (13, .sl Y0 a2), (14, .sl Y1 a0), (15, .sl (.int .i64) a1)] [(1000, .box 23 [.sl Y1 a0]), (1001, .box 33 [.sl (.int .i64) a1]), (1002, .box 22 [.sl Y0 a2])] ?_
   obtain ⟨v0_3, hv5, h⟩ := Option.bind_eq_some_iff.1 h
   refine zG [] [] (hc_history_allows a2 a0 a1 hv5) [(12, .bool true), (16, .bool v0_3)] [(1000, .box 23 [.sl Y1 a0]), (1001, .box 33 [.sl (.int .i64) a1]), (1002, .box 22 [.sl Y0 a2])] ?_
   refine zB [(3, .bool v0_3)] [(1000, .box 23 [.sl Y1 a0]), (1001, .box 33 [.sl (.int .i64) a1]), (1002, .box 22 [.sl Y0 a2])] ?_
   refine AW.ret ?_
   obtain rfl := Option.some.inj h
   exact zR [] [] []
  ·refine zS 4 [(12, .bool false), (16, .cv (undef))] [(1000, .box 23 [.sl Y1 a0]), (1001, .box 33 [.sl (.int .i64) a1]), (1002, .box 22 [.sl Y0 a2])] ?_
   refine zB [(3, .bool false)] [(1000, .box 23 [.sl Y1 a0]), (1001, .box 33 [.sl (.int .i64) a1]), (1002, .box 22 [.sl Y0 a2])] ?_
   refine AW.ret ?_
   obtain rfl := Option.some.inj h
   exact zR [] [] []
 ·refine zS 6 [(0, .bp 1000 0), (1, .bp 1001 0), (12, .bool false), (13, .cv (undef))] [(1000, .box 23 [.sl Y1 a0]), (1001, .box 33 [.sl (.int .i64) a1]), (1002, .box 22 [.sl Y0 a2])] ?_
  refine zB [(3, .bool false)] [(1000, .box 23 [.sl Y1 a0]), (1001, .box 33 [.sl (.int .i64) a1]), (1002, .box 22 [.sl Y0 a2])] ?_
  refine AW.ret ?_
  obtain rfl := Option.some.inj h
  exact zR [] [] []

theorem hc_history_told_23 (c0 : ZH) (c1 : List Int) (c2 : ZS) {r : Bool} (h : history_told_23 c0 c1 c2 = some r) : HC Try.prog 58 [(1000, .box 23 [.sl Y1 c0]), (1001, .box 33 [.sl (.int .i64) c1]), (1002, .box 22 [.sl Y0 c2])] [.int .i64 0, .fn (.func 74) [] [.bp 1000 0, .bp 1001 0, .bp 1002 0]] [(1000, .box 23 [.sl Y1 c0]), (1001, .box 33 [.sl (.int .i64) c1]), (1002, .box 22 [.sl Y0 c2])] (.tup [.bool r, .int .i64 0]) := by
 unfold history_told_23 at h
 refine zH Try.func58 [.tmp 4, .tmp 5] 13 ?_
 refine zo ?_
 refine zB [(0, .int .i64 0), (1, .fn (.func 74) [] [.bp 1000 0, .bp 1001 0, .bp 1002 0])] [(1000, .box 23 [.sl Y1 c0]), (1001, .box 33 [.sl (.int .i64) c1]), (1002, .box 22 [.sl Y0 c2])] ?_
 refine AW.seq ?_
 refine zo ?_
 refine zB [(0, .int .i64 0), (1, .fn (.func 74) [] [.bp 1000 0, .bp 1001 0, .bp 1002 0]), (8, .bool false)] [(1000, .box 23 [.sl Y1 c0]), (1001, .box 33 [.sl (.int .i64) c1]), (1002, .box 22 [.sl Y0 c2])] ?_
 refine AW.cond (b := false) rfl (fun hb1 => by cases hb1) (fun _ => ?_)
 refine zk ?_
 refine zo ?_
 refine zS 1 [(11, .fn (.func 74) [] [.bp 1000 0, .bp 1001 0, .bp 1002 0])] [(1000, .box 23 [.sl Y1 c0]), (1001, .box 33 [.sl (.int .i64) c1]), (1002, .box 22 [.sl Y0 c2])] ?_
 obtain ⟨v0, hv2, h⟩ := Option.bind_eq_some_iff.1 h
 refine zC [] [(1000, 1000), (1001, 1001), (1002, 1002)] (hc_history_IsOrder_1 c0 c1 c2 hv2) [(12, .bool v0)] [(1000, .box 23 [.sl Y1 c0]), (1001, .box 33 [.sl (.int .i64) c1]), (1002, .box 22 [.sl Y0 c2])] ?_
 refine zB [(4, .bool v0), (5, .int .i64 0)] [(1000, .box 23 [.sl Y1 c0]), (1001, .box 33 [.sl (.int .i64) c1]), (1002, .box 22 [.sl Y0 c2])] ?_
 refine AW.ret ?_
 obtain rfl := Option.some.inj h
 exact zR [] [] []

theorem hc_history_told_24 (err : Int) (c0 : ZH) (c1 : List Int) (c2 : ZS) (hnz_err : decide (err = 0) = false) {r : Unit} (h : history_told_24 err c0 c1 c2 = some r) : HC Try.prog 58 [(1000, .box 23 [.sl Y1 c0]), (1001, .box 33 [.sl (.int .i64) c1]), (1002, .box 22 [.sl Y0 c2])] [.int .i64 err, .fn (.func 74) [] [.bp 1000 0, .bp 1001 0, .bp 1002 0]] [(1000, .box 23 [.sl Y1 c0]), (1001, .box 33 [.sl (.int .i64) c1]), (1002, .box 22 [.sl Y0 c2])] (.tup [.bool false, .int .i64 err]) := by
 unfold history_told_24 at h
 refine zH Try.func58 [.tmp 4, .tmp 5] 13 ?_
 refine zo ?_
 refine zB [(0, .int .i64 err), (1, .fn (.func 74) [] [.bp 1000 0, .bp 1001 0, .bp 1002 0])] [(1000, .box 23 [.sl Y1 c0]), (1001, .box 33 [.sl (.int .i64) c1]), (1002, .box 22 [.sl Y0 c2])] ?_
 refine AW.seq ?_
 refine zo ?_
 refine zB [(0, .int .i64 err), (1, .fn (.func 74) [] [.bp 1000 0, .bp 1001 0, .bp 1002 0]), (8, .bool true)] [(1000, .box 23 [.sl Y1 c0]), (1001, .box 33 [.sl (.int .i64) c1]), (1002, .box 22 [.sl Y0 c2])] ?_
 refine AW.cond (b := true) rfl (fun _ => ?_) (fun hb1 => by cases hb1)
 refine zo ?_
 refine zB [(0, .int .i64 err), (6, .bool false)] [(1000, .box 23 [.sl Y1 c0]), (1001, .box 33 [.sl (.int .i64) c1]), (1002, .box 22 [.sl Y0 c2])] ?_
 refine zo ?_
 refine zB [(4, .bool false), (5, .int .i64 err)] [(1000, .box 23 [.sl Y1 c0]), (1001, .box 33 [.sl (.int .i64) c1]), (1002, .box 22 [.sl Y0 c2])] ?_
 refine zr ?_
 obtain rfl := Option.some.inj h
 exact zR [] [] []

theorem hc_history_IsOrder (specs : ZS) (h0 : ZH) (order : List Int) {r : Bool × Int} (h : history_IsOrder specs h0 order = some r) : HC Try.prog 26 [] [.sl Y0 specs, .sl Y1 h0, .sl (.int .i64) order] [] (.tup [.bool r.1, .int .i64 r.2]) := by
 unfold history_IsOrder at h
 refine zH Try.func26 [.tmp 6, .tmp 7] 15 ?_
 refine zo ?_
 refine zB [(3, .bp 3 0), (4, .bp 4 0), (5, .bp 5 0)] [(3, .box 22 [.sl Y0 specs]), (4, .box 23 [.sl Y1 h0]), (5, .box 33 [.sl (.int .i64) order])] ?_
 refine zo ?_
 refine zS 2 [(3, .bp 3 0), (4, .bp 4 0), (5, .bp 5 0), (8, .sl Y0 specs), (9, .sl Y1 h0)] [(3, .box 22 [.sl Y0 specs]), (4, .box 23 [.sl Y1 h0]), (5, .box 33 [.sl (.int .i64) order])] ?_
 obtain ⟨v0, hv1, h⟩ := Option.bind_eq_some_iff.1 h
 refine zC [] [] (hc_history_checkFor specs h0 hv1) [(3, .bp 3 0), (4, .bp 4 0), (5, .bp 5 0), (10, .int .i64 v0)] [(3, .box 22 [.sl Y0 specs]), (4, .box 23 [.sl Y1 h0]), (5, .box 33 [.sl (.int .i64) order])] ?_
 refine zS 1 [(10, .int .i64 v0), (11, .fn (.func 74) [] [.bp 4 0, .bp 5 0, .bp 3 0])] [(3, .box 22 [.sl Y0 specs]), (4, .box 23 [.sl Y1 h0]), (5, .box 33 [.sl (.int .i64) order])] ?_
 rcases Bool.eq_false_or_eq_true (decide (v0 = 0)) with hb2 | hb2
 ·rw [if_pos hb2] at h
  have hz3 : v0 = 0 := by simpa using hb2
  refine zT [(10, .int .i64 0), (11, .fn (.func 74) [] [.bp 4 0, .bp 5 0, .bp 3 0])] [(3, .box 22 [.sl Y0 specs]), (4, .box 23 [.sl Y1 h0]), (5, .box 33 [.sl (.int .i64) order])] gt ?_
  obtain ⟨v0_2, hv4, h⟩ := Option.bind_eq_some_iff.1 h
  refine zC [] [(1000, 4), (1001, 5), (1002, 3)] (hc_history_told_23 h0 order specs hv4) [(12, .tup [.bool v0_2, .int .i64 0])] [] ?_
  refine zB [(6, .bool v0_2), (7, .int .i64 0)] [] ?_
  refine AW.ret ?_
  obtain rfl := Option.some.inj h
  exact zR [] [] []
 ·rw [if_neg (Bool.eq_false_iff.1 hb2)] at h
  refine zT [(10, .int .i64 v0), (11, .fn (.func 74) [] [.bp 4 0, .bp 5 0, .bp 3 0])] [(3, .box 22 [.sl Y0 specs]), (4, .box 23 [.sl Y1 h0]), (5, .box 33 [.sl (.int .i64) order])] gt ?_
  obtain ⟨v0_3, hv5, h⟩ := Option.bind_eq_some_iff.1 h
  refine zC [] [(1000, 4), (1001, 5), (1002, 3)] (hc_history_told_24 v0 h0 order specs hb2 hv5) [(12, .tup [.bool false, .int .i64 v0])] [] ?_
  refine zB [(6, .bool false), (7, .int .i64 v0)] [] ?_
  refine AW.ret ?_
  obtain rfl := Option.some.inj h
  exact zR [] [] []

theorem hc_history_Allows_1 (a0 : ZS) (a1 : ZH) (a2 : List Int) {r : Bool} (h : history_Allows_1 a0 a1 a2 = some r) : HC Try.prog 83 [(1000, .box 22 [.sl Y0 a0]), (1001, .box 23 [.sl Y1 a1]), (1002, .box 33 [.sl (.int .i64) a2])] [.bp 1000 0, .bp 1001 0, .bp 1002 0] [(1000, .box 22 [.sl Y0 a0]), (1001, .box 23 [.sl Y1 a1]), (1002, .box 33 [.sl (.int .i64) a2])] (.bool r) := by
 unfold history_Allows_1 at h
 refine zH Try.func83 [.tmp 3] 8 ?_
 refine zo ?_
 refine zB [(0, .bp 1000 0), (1, .bp 1001 0), (2, .bp 1002 0)] [(1000, .box 22 [.sl Y0 a0]), (1001, .box 23 [.sl Y1 a1]), (1002, .box 33 [.sl (.int .i64) a2])] ?_
 refine zo ?_
 refine zS 3 [(4, .sl Y0 a0), (5, .sl Y1 a1), (6, .sl (.int .i64) a2)] [(1000, .box 22 [.sl Y0 a0]), (1001, .box 23 [.sl Y1 a1]), (1002, .box 33 [.sl (.int .i64) a2])] ?_
 obtain ⟨v0, hv1, h⟩ := Option.bind_eq_some_iff.1 h
 refine zC [] [] (hc_history_allows a0 a1 a2 hv1) [(7, .bool v0)] [(1000, .box 22 [.sl Y0 a0]), (1001, .box 23 [.sl Y1 a1]), (1002, .box 33 [.sl (.int .i64) a2])] ?_
 refine zB [(3, .bool v0)] [(1000, .box 22 [.sl Y0 a0]), (1001, .box 23 [.sl Y1 a1]), (1002, .box 33 [.sl (.int .i64) a2])] ?_
 refine AW.ret ?_
 obtain rfl := Option.some.inj h
 exact zR [] [] []

theorem hc_history_told_25 (c0 : ZS) (c1 : ZH) (c2 : List Int) {r : Bool} (h : history_told_25 c0 c1 c2 = some r) : HC Try.prog 58 [(1000, .box 22 [.sl Y0 c0]), (1001, .box 23 [.sl Y1 c1]), (1002, .box 33 [.sl (.int .i64) c2])] [.int .i64 0, .fn (.func 83) [] [.bp 1000 0, .bp 1001 0, .bp 1002 0]] [(1000, .box 22 [.sl Y0 c0]), (1001, .box 23 [.sl Y1 c1]), (1002, .box 33 [.sl (.int .i64) c2])] (.tup [.bool r, .int .i64 0]) := by
 unfold history_told_25 at h
 refine zH Try.func58 [.tmp 4, .tmp 5] 13 ?_
 refine zo ?_
 refine zB [(0, .int .i64 0), (1, .fn (.func 83) [] [.bp 1000 0, .bp 1001 0, .bp 1002 0])] [(1000, .box 22 [.sl Y0 c0]), (1001, .box 23 [.sl Y1 c1]), (1002, .box 33 [.sl (.int .i64) c2])] ?_
 refine AW.seq ?_
 refine zo ?_
 refine zB [(0, .int .i64 0), (1, .fn (.func 83) [] [.bp 1000 0, .bp 1001 0, .bp 1002 0]), (8, .bool false)] [(1000, .box 22 [.sl Y0 c0]), (1001, .box 23 [.sl Y1 c1]), (1002, .box 33 [.sl (.int .i64) c2])] ?_
 refine AW.cond (b := false) rfl (fun hb1 => by cases hb1) (fun _ => ?_)
 refine zk ?_
 refine zo ?_
 refine zS 1 [(11, .fn (.func 83) [] [.bp 1000 0, .bp 1001 0, .bp 1002 0])] [(1000, .box 22 [.sl Y0 c0]), (1001, .box 23 [.sl Y1 c1]), (1002, .box 33 [.sl (.int .i64) c2])] ?_
 obtain ⟨v0, hv2, h⟩ := Option.bind_eq_some_iff.1 h
 refine zC [] [(1000, 1000), (1001, 1001), (1002, 1002)] (hc_history_Allows_1 c0 c1 c2 hv2) [(12, .bool v0)] [(1000, .box 22 [.sl Y0 c0]), (1001, .box 23 [.sl Y1 c1]), (1002, .box 33 [.sl (.int .i64) c2])] ?_
 refine zB [(4, .bool v0), (5, .int .i64 0)] [(1000, .box 22 [.sl Y0 c0]), (1001, .box 23 [.sl Y1 c1]), (1002, .box 33 [.sl (.int .i64) c2])] ?_
 refine AW.ret ?_
 obtain rfl := Option.some.inj h
 exact zR [] [] []

theorem hc_history_told_26 (err : Int) (c0 : ZS) (c1 : ZH) (c2 : List Int) (hnz_err : decide (err = 0) = false) {r : Unit} (h : history_told_26 err c0 c1 c2 = some r) : HC Try.prog 58 [(1000, .box 22 [.sl Y0 c0]), (1001, .box 23 [.sl Y1 c1]), (1002, .box 33 [.sl (.int .i64) c2])] [.int .i64 err, .fn (.func 83) [] [.bp 1000 0, .bp 1001 0, .bp 1002 0]] [(1000, .box 22 [.sl Y0 c0]), (1001, .box 23 [.sl Y1 c1]), (1002, .box 33 [.sl (.int .i64) c2])] (.tup [.bool false, .int .i64 err]) := by
 unfold history_told_26 at h
 refine zH Try.func58 [.tmp 4, .tmp 5] 13 ?_
 refine zo ?_
 refine zB [(0, .int .i64 err), (1, .fn (.func 83) [] [.bp 1000 0, .bp 1001 0, .bp 1002 0])] [(1000, .box 22 [.sl Y0 c0]), (1001, .box 23 [.sl Y1 c1]), (1002, .box 33 [.sl (.int .i64) c2])] ?_
 refine AW.seq ?_
 refine zo ?_
 refine zB [(0, .int .i64 err), (1, .fn (.func 83) [] [.bp 1000 0, .bp 1001 0, .bp 1002 0]), (8, .bool true)] [(1000, .box 22 [.sl Y0 c0]), (1001, .box 23 [.sl Y1 c1]), (1002, .box 33 [.sl (.int .i64) c2])] ?_
 refine AW.cond (b := true) rfl (fun _ => ?_) (fun hb1 => by cases hb1)
 refine zo ?_
 refine zB [(0, .int .i64 err), (6, .bool false)] [(1000, .box 22 [.sl Y0 c0]), (1001, .box 23 [.sl Y1 c1]), (1002, .box 33 [.sl (.int .i64) c2])] ?_
 refine zo ?_
 refine zB [(4, .bool false), (5, .int .i64 err)] [(1000, .box 22 [.sl Y0 c0]), (1001, .box 23 [.sl Y1 c1]), (1002, .box 33 [.sl (.int .i64) c2])] ?_
 refine zr ?_
 obtain rfl := Option.some.inj h
 exact zR [] [] []

end Go.Proofs.Ytlfpagicagmjgaa
