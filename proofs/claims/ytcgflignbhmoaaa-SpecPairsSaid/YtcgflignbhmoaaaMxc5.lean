/-
  Made by wip/tool/dc.py out of the print of the program: contracts.
-/
import Derived.Test.YtcgflignbhmoaaaQp
import Derived.Test.YtcgflignbhmoaaaShs
import Derived.Test.YtcgflignbhmoaaaAvd
import Derived.Test.YtcgflignbhmoaaaMxc4
namespace Go.Proofs.Ytcgflignbhmoaaa
open Go.RowKit

set_option linter.unusedSimpArgs false
set_option linter.unusedVariables false
set_option linter.constructorNameAsVariable false

set_option maxRecDepth 100000
set_option maxHeartbeats 2000000

theorem hc_linealref01_isTable (s : Int × Int × (List (List Int)) × (List (List Int))) (l : List (List Int)) (limit : Int) {r : Bool} (h : linealref01_isTable s l limit = some r) : HC Try.prog 66 [] [.agg [.int .i64 s.1, .int .i64 s.2.1, .sl (.sl (.int .i64)) s.2.2.1, .sl (.sl (.int .i64)) s.2.2.2], .sl (.sl (.int .i64)) l, .int .i64 limit] [] (.bool r) := by
 unfold linealref01_isTable at h
 refine zH Try.func66 [.tmp 6] 42 ?_
 refine zo ?_
 refine zB [(1, .sl (.sl (.int .i64)) l), (2, .int .i64 limit), (3, .bp 3 0)] [(3, .box 24 [.int .i64 s.1, .int .i64 s.2.1, .sl (.sl (.int .i64)) s.2.2.1, .sl (.sl (.int .i64)) s.2.2.2])] ?_
 refine AW.seq ?_
 refine zo ?_
 refine zB [(1, .sl (.sl (.int .i64)) l), (2, .int .i64 limit), (3, .bp 3 0), (15, .bool (!(decide ((l.length : Int) = s.1))))] [(3, .box 24 [.int .i64 s.1, .int .i64 s.2.1, .sl (.sl (.int .i64)) s.2.2.1, .sl (.sl (.int .i64)) s.2.2.2])] ?_
 refine zQ h (fun hb1 h => ?_) (fun hb1 h => ?_)
 ·refine zo ?_
  refine zB [(6, .bool false)] [] ?_
  refine zr ?_
  obtain rfl := Option.some.inj h
  exact zR [] [] []
 ·refine zk ?_
  refine AW.have1 (fun _ : Unit => linealref01_isTable_k1 = some r) (fun _ => ⟨fr [], hpGet [], gt⟩) (fun _ h => ?_) (fun hk_linealref01_isTable_k1 => ?_)
  ·as_aux_lemma =>
    unfold linealref01_isTable_k1 at h
    refine zo ?_
    refine zB [(6, .bool true)] [] ?_
    refine AW.ret ?_
    obtain rfl := Option.some.inj h
    exact zR [] [] []
  ·refine AW.seq ?_
   refine zo ?_
   refine zB [(2, .int .i64 limit), (3, .bp 3 0), (16, .sl (.sl (.int .i64)) l), (17, .int .i64 (l.length : Int)), (18, .int .i64 0)] [(3, .box 24 [.int .i64 s.1, .int .i64 s.2.1, .sl (.sl (.int .i64)) s.2.2.1, .sl (.sl (.int .i64)) s.2.2.2])] ?_
   refine AW.block ?_
   obtain ⟨rv6, hw2, ho3⟩ := Option.bind_eq_some_iff.1 h
   refine AW.loopO (linealref01_isTable_b1 s l limit) (fun st1 => ⟨fr [(2, .int .i64 limit), (3, .bp 3 0), (16, .sl (.sl (.int .i64)) l), (17, .int .i64 (l.length : Int)), (18, .int .i64 st1)], hpGet [(3, .box 24 [.int .i64 s.1, .int .i64 s.2.1, .sl (.sl (.int .i64)) s.2.2.1, .sl (.sl (.int .i64)) s.2.2.2])], gt⟩) 0 hw2 (zL [] [] []) ?_
   as_aux_lemma =>
    intro st1 x5 h hd4
    unfold linealref01_isTable_b1 at h
    refine zo ?_
    refine zB [(2, .int .i64 limit), (3, .bp 3 0), (16, .sl (.sl (.int .i64)) l), (17, .int .i64 (l.length : Int)), (18, .int .i64 st1), (19, .bool (decide (st1 < (l.length : Int))))] [(3, .box 24 [.int .i64 s.1, .int .i64 s.2.1, .sl (.sl (.int .i64)) s.2.2.1, .sl (.sl (.int .i64)) s.2.2.2])] ?_
    refine AW.seq ?_
    refine zQ h (fun hb7 h => ?_) (fun hb7 h => ?_)
    ·refine zk ?_
     refine AW.have1 (fun _ : Unit => linealref01_isTable_k2 st1 = some x5) (fun _ => ⟨fr [(2, .int .i64 limit), (3, .bp 3 0), (16, .sl (.sl (.int .i64)) l), (17, .int .i64 (l.length : Int)), (18, .int .i64 st1)], hpGet [(3, .box 24 [.int .i64 s.1, .int .i64 s.2.1, .sl (.sl (.int .i64)) s.2.2.1, .sl (.sl (.int .i64)) s.2.2.2])], gt⟩) (fun _ h => ?_) (fun hk_linealref01_isTable_k2 => ?_)
     ·as_aux_lemma =>
       unfold linealref01_isTable_k2 at h
       refine AW.ops ?_
       obtain ⟨c8, h⟩ := ck_some.1 h
       refine zA [(2, .int .i64 limit), (3, .bp 3 0), (16, .sl (.sl (.int .i64)) l), (17, .int .i64 (l.length : Int)), (18, .int .i64 (st1 + 1))] [(3, .box 24 [.int .i64 s.1, .int .i64 s.2.1, .sl (.sl (.int .i64)) s.2.2.1, .sl (.sl (.int .i64)) s.2.2.2])] ?_
       obtain rfl := Option.some.inj h
       exact ⟨_, rfl, zL [] [] []⟩
     ·refine AW.seq ?_
      refine AW.block ?_
      refine zo ?_
      obtain ⟨c9, h⟩ := ck_some.1 h
      obtain ⟨c10, h⟩ := ck_some.1 h
      refine zB [(2, .int .i64 limit), (3, .bp 3 0), (8, .sl (.int .i64) (l.getD st1.toNat [])), (16, .sl (.sl (.int .i64)) l), (17, .int .i64 (l.length : Int)), (18, .int .i64 st1)] [(3, .box 24 [.int .i64 s.1, .int .i64 s.2.1, .sl (.sl (.int .i64)) s.2.2.1, .sl (.sl (.int .i64)) s.2.2.2])] ?_
      refine AW.seq ?_
      refine zo ?_
      refine zB [(2, .int .i64 limit), (3, .bp 3 0), (8, .sl (.int .i64) (l.getD st1.toNat [])), (16, .sl (.sl (.int .i64)) l), (17, .int .i64 (l.length : Int)), (18, .int .i64 st1), (26, .bool (!(decide (((l.getD st1.toNat []).length : Int) = s.2.1))))] [(3, .box 24 [.int .i64 s.1, .int .i64 s.2.1, .sl (.sl (.int .i64)) s.2.2.1, .sl (.sl (.int .i64)) s.2.2.2])] ?_
      refine zQ h (fun hb11 h => ?_) (fun hb11 h => ?_)
      ·refine zo ?_
       refine zB [(6, .bool false)] [] ?_
       refine zr ?_
       refine ablock_r ?_
       refine athen_r ?_
       obtain rfl := Option.some.inj h
       rw [← hd4 _ rfl] at ho3
       have h := ho3
       try simp only at h
       refine athen_r ?_
       refine ablock_r ?_
       refine athen_r ?_
       obtain rfl := Option.some.inj h
       exact zR [] [] []
      ·refine zk ?_
       refine zo ?_
       refine zB [(2, .int .i64 limit), (3, .bp 3 0), (16, .sl (.sl (.int .i64)) l), (17, .int .i64 (l.length : Int)), (18, .int .i64 st1), (27, .sl (.int .i64) (l.getD st1.toNat [])), (28, .int .i64 ((l.getD st1.toNat []).length : Int)), (29, .int .i64 0)] [(3, .box 24 [.int .i64 s.1, .int .i64 s.2.1, .sl (.sl (.int .i64)) s.2.2.1, .sl (.sl (.int .i64)) s.2.2.2])] ?_
       refine AW.block ?_
       obtain ⟨rv16, hw12, ho13⟩ := Option.bind_eq_some_iff.1 h
       refine AW.loopO (linealref01_isTable_b2 l limit st1) (fun st2 => ⟨fr [(2, .int .i64 limit), (3, .bp 3 0), (16, .sl (.sl (.int .i64)) l), (17, .int .i64 (l.length : Int)), (18, .int .i64 st1), (27, .sl (.int .i64) (l.getD st1.toNat [])), (28, .int .i64 ((l.getD st1.toNat []).length : Int)), (29, .int .i64 st2)], hpGet [(3, .box 24 [.int .i64 s.1, .int .i64 s.2.1, .sl (.sl (.int .i64)) s.2.2.1, .sl (.sl (.int .i64)) s.2.2.2])], gt⟩) 0 hw12 (zL [] [] []) ?_
       as_aux_lemma =>
        intro st2 x15 h hd14
        unfold linealref01_isTable_b2 at h
        refine zo ?_
        refine zB [(2, .int .i64 limit), (3, .bp 3 0), (16, .sl (.sl (.int .i64)) l), (17, .int .i64 (l.length : Int)), (18, .int .i64 st1), (27, .sl (.int .i64) (l.getD st1.toNat [])), (28, .int .i64 ((l.getD st1.toNat []).length : Int)), (29, .int .i64 st2), (30, .bool (decide (st2 < ((l.getD st1.toNat []).length : Int))))] [(3, .box 24 [.int .i64 s.1, .int .i64 s.2.1, .sl (.sl (.int .i64)) s.2.2.1, .sl (.sl (.int .i64)) s.2.2.2])] ?_
        refine AW.seq ?_
        refine zQ h (fun hb17 h => ?_) (fun hb17 h => ?_)
        ·refine zk ?_
         refine AW.seq ?_
         refine AW.block ?_
         refine zo ?_
         obtain ⟨c18, h⟩ := ck_some.1 h
         obtain ⟨c19, h⟩ := ck_some.1 h
         refine zB [(2, .int .i64 limit), (3, .bp 3 0), (10, .int .i64 ((l.getD st1.toNat []).getD st2.toNat 0)), (16, .sl (.sl (.int .i64)) l), (17, .int .i64 (l.length : Int)), (18, .int .i64 st1), (27, .sl (.int .i64) (l.getD st1.toNat [])), (28, .int .i64 ((l.getD st1.toNat []).length : Int)), (29, .int .i64 st2)] [(3, .box 24 [.int .i64 s.1, .int .i64 s.2.1, .sl (.sl (.int .i64)) s.2.2.1, .sl (.sl (.int .i64)) s.2.2.2])] ?_
         refine zo ?_
         refine zS 3 [(2, .int .i64 limit), (3, .bp 3 0), (10, .int .i64 ((l.getD st1.toNat []).getD st2.toNat 0)), (16, .sl (.sl (.int .i64)) l), (17, .int .i64 (l.length : Int)), (18, .int .i64 st1), (27, .sl (.int .i64) (l.getD st1.toNat [])), (28, .int .i64 ((l.getD st1.toNat []).length : Int)), (29, .int .i64 st2), (35, .bool (decide (((l.getD st1.toNat []).getD st2.toNat 0) < 0)))] [(3, .box 24 [.int .i64 s.1, .int .i64 s.2.1, .sl (.sl (.int .i64)) s.2.2.1, .sl (.sl (.int .i64)) s.2.2.2])] ?_
         rcases zI h with ⟨hb20, h⟩ | ⟨hb20, h⟩
         ·refine zB [(2, .int .i64 limit), (3, .bp 3 0), (16, .sl (.sl (.int .i64)) l), (17, .int .i64 (l.length : Int)), (18, .int .i64 st1), (27, .sl (.int .i64) (l.getD st1.toNat [])), (28, .int .i64 ((l.getD st1.toNat []).length : Int)), (29, .int .i64 st2), (39, .bool true)] [(3, .box 24 [.int .i64 s.1, .int .i64 s.2.1, .sl (.sl (.int .i64)) s.2.2.1, .sl (.sl (.int .i64)) s.2.2.2])] ?_
          refine AW.cond (b := true) rfl (fun _ => ?_) (fun hb21 => by cases hb21)
          refine zo ?_
          refine zB [(6, .bool false)] [] ?_
          refine AW.ret ?_
          refine ablock_r ?_
          refine athen_r ?_
          obtain rfl := Option.some.inj h
          rw [← hd14 _ rfl] at ho13
          have h := ho13
          try simp only at h
          refine athen_r ?_
          refine ablock_r ?_
          refine ablock_r ?_
          refine athen_r ?_
          obtain rfl := Option.some.inj h
          rw [← hd4 _ rfl] at ho3
          have h := ho3
          try simp only at h
          refine athen_r ?_
          refine ablock_r ?_
          refine athen_r ?_
          obtain rfl := Option.some.inj h
          exact zR [] [] []
         ·refine zB [(2, .int .i64 limit), (3, .bp 3 0), (16, .sl (.sl (.int .i64)) l), (17, .int .i64 (l.length : Int)), (18, .int .i64 st1), (27, .sl (.int .i64) (l.getD st1.toNat [])), (28, .int .i64 ((l.getD st1.toNat []).length : Int)), (29, .int .i64 st2), (39, .bool (decide (limit ≤ ((l.getD st1.toNat []).getD st2.toNat 0))))] [(3, .box 24 [.int .i64 s.1, .int .i64 s.2.1, .sl (.sl (.int .i64)) s.2.2.1, .sl (.sl (.int .i64)) s.2.2.2])] ?_
          refine zQ h (fun hb22 h => ?_) (fun hb22 h => ?_)
          ·refine zo ?_
           refine zB [(6, .bool false)] [] ?_
           refine AW.ret ?_
           refine ablock_r ?_
           refine athen_r ?_
           obtain rfl := Option.some.inj h
           rw [← hd14 _ rfl] at ho13
           have h := ho13
           try simp only at h
           refine athen_r ?_
           refine ablock_r ?_
           refine ablock_r ?_
           refine athen_r ?_
           obtain rfl := Option.some.inj h
           rw [← hd4 _ rfl] at ho3
           have h := ho3
           try simp only at h
           refine athen_r ?_
           refine ablock_r ?_
           refine athen_r ?_
           obtain rfl := Option.some.inj h
           exact zR [] [] []
          ·refine zm ?_
           refine athen_n ?_
           refine AW.ops ?_
           obtain ⟨c23, h⟩ := ck_some.1 h
           refine zA [(2, .int .i64 limit), (3, .bp 3 0), (16, .sl (.sl (.int .i64)) l), (17, .int .i64 (l.length : Int)), (18, .int .i64 st1), (27, .sl (.int .i64) (l.getD st1.toNat [])), (28, .int .i64 ((l.getD st1.toNat []).length : Int)), (29, .int .i64 (st2 + 1))] [(3, .box 24 [.int .i64 s.1, .int .i64 s.2.1, .sl (.sl (.int .i64)) s.2.2.1, .sl (.sl (.int .i64)) s.2.2.2])] ?_
           obtain rfl := Option.some.inj h
           exact ⟨_, rfl, zL [] [] []⟩
        ·refine AW.exit ?_
         refine athen_e ?_
         obtain rfl := Option.some.inj h
         rw [← hd14 _ rfl] at ho13
         have h := ho13
         try simp only at h
         refine athen_e ?_
         refine ablock_s ?_
         refine ablock_n ?_
         refine athen_n ?_
         exact AW.weaken (zL [] [] []) (hk_linealref01_isTable_k2 () h)
    ·refine AW.exit ?_
     refine athen_e ?_
     obtain rfl := Option.some.inj h
     rw [← hd4 _ rfl] at ho3
     have h := ho3
     try simp only at h
     refine athen_e ?_
     refine ablock_s ?_
     refine athen_n ?_
     exact AW.weaken (zL [] [] []) (hk_linealref01_isTable_k1 () h)

theorem hc_linealref01_Valid (s : Int × Int × (List (List Int)) × (List (List Int))) {r : Bool} (h : linealref01_Valid s = some r) : HC Try.prog 23 [] [.agg [.int .i64 s.1, .int .i64 s.2.1, .sl (.sl (.int .i64)) s.2.2.1, .sl (.sl (.int .i64)) s.2.2.2]] [] (.bool r) := by
 unfold linealref01_Valid at h
 refine zH Try.func23 [.tmp 2] 35 ?_
 refine zo ?_
 refine zB [(1, .bp 1 0)] [(1, .box 24 [.int .i64 s.1, .int .i64 s.2.1, .sl (.sl (.int .i64)) s.2.2.1, .sl (.sl (.int .i64)) s.2.2.2])] ?_
 refine zo ?_
 refine zS 4 [(1, .bp 1 0), (6, .bool (decide (1 ≤ s.1)))] [(1, .box 24 [.int .i64 s.1, .int .i64 s.2.1, .sl (.sl (.int .i64)) s.2.2.1, .sl (.sl (.int .i64)) s.2.2.2])] ?_
 rcases zI h with ⟨hb1, h⟩ | ⟨hb1, h⟩
 ·refine zS 5 [(1, .bp 1 0), (11, .bool (decide (s.1 ≤ 8)))] [(1, .box 24 [.int .i64 s.1, .int .i64 s.2.1, .sl (.sl (.int .i64)) s.2.2.1, .sl (.sl (.int .i64)) s.2.2.2])] ?_
  rcases zI h with ⟨hb2, h⟩ | ⟨hb2, h⟩
  ·refine zS 5 [(1, .bp 1 0), (16, .bool (decide (1 ≤ s.2.1)))] [(1, .box 24 [.int .i64 s.1, .int .i64 s.2.1, .sl (.sl (.int .i64)) s.2.2.1, .sl (.sl (.int .i64)) s.2.2.2])] ?_
   rcases zI h with ⟨hb3, h⟩ | ⟨hb3, h⟩
   ·refine zS 5 [(1, .bp 1 0), (21, .bool (decide (s.2.1 ≤ 4)))] [(1, .box 24 [.int .i64 s.1, .int .i64 s.2.1, .sl (.sl (.int .i64)) s.2.2.1, .sl (.sl (.int .i64)) s.2.2.2])] ?_
    rcases zI h with ⟨hb4, h⟩ | ⟨hb4, h⟩
    ·refine zS 5 [(1, .bp 1 0), (21, .bool true), (22, .agg [.int .i64 s.1, .int .i64 s.2.1, .sl (.sl (.int .i64)) s.2.2.1, .sl (.sl (.int .i64)) s.2.2.2]), (24, .sl (.sl (.int .i64)) s.2.2.1), (26, .int .i64 s.1)] [(1, .box 24 [.int .i64 s.1, .int .i64 s.2.1, .sl (.sl (.int .i64)) s.2.2.1, .sl (.sl (.int .i64)) s.2.2.2])] ?_
     obtain ⟨v0, hv5, h⟩ := Option.bind_eq_some_iff.1 h
     refine zG [] [] (hc_linealref01_isTable s s.2.2.1 s.1 hv5) [(1, .bp 1 0), (21, .bool true), (27, .bool v0)] [(1, .box 24 [.int .i64 s.1, .int .i64 s.2.1, .sl (.sl (.int .i64)) s.2.2.1, .sl (.sl (.int .i64)) s.2.2.2])] ?_
     refine zS 2 [(1, .bp 1 0), (29, .bool v0)] [(1, .box 24 [.int .i64 s.1, .int .i64 s.2.1, .sl (.sl (.int .i64)) s.2.2.1, .sl (.sl (.int .i64)) s.2.2.2])] ?_
     rcases zI h with ⟨hb6, h⟩ | ⟨hb6, h⟩
     ·refine zS 3 [(29, .bool true), (30, .agg [.int .i64 s.1, .int .i64 s.2.1, .sl (.sl (.int .i64)) s.2.2.1, .sl (.sl (.int .i64)) s.2.2.2]), (32, .sl (.sl (.int .i64)) s.2.2.2)] [] ?_
      obtain ⟨v0_2, hv7, h⟩ := Option.bind_eq_some_iff.1 h
      refine zG [] [] (hc_linealref01_isTable s s.2.2.2 6 hv7) [(29, .bool true), (33, .bool v0_2)] [] ?_
      refine zB [(2, .bool v0_2)] [] ?_
      refine AW.ret ?_
      obtain rfl := Option.some.inj h
      exact zR [] [] []
     ·refine zS 4 [(29, .bool false), (33, .cv (undef))] [] ?_
      refine zB [(2, .bool false)] [] ?_
      refine AW.ret ?_
      obtain rfl := Option.some.inj h
      exact zR [] [] []
    ·refine zS 4 [(1, .bp 1 0), (21, .bool false), (22, .cv (undef)), (24, .cv (undef)), (25, .cv (undef))] [(1, .box 24 [.int .i64 s.1, .int .i64 s.2.1, .sl (.sl (.int .i64)) s.2.2.1, .sl (.sl (.int .i64)) s.2.2.2])] ?_
     refine zS 6 [(29, .bool false), (30, .cv (undef)), (31, .cv (undef))] [] ?_
     refine zB [(2, .bool false)] [] ?_
     refine AW.ret ?_
     obtain rfl := Option.some.inj h
     exact zR [] [] []
   ·refine zS 6 [(1, .bp 1 0), (21, .bool false), (22, .cv (undef))] [(1, .box 24 [.int .i64 s.1, .int .i64 s.2.1, .sl (.sl (.int .i64)) s.2.2.1, .sl (.sl (.int .i64)) s.2.2.2])] ?_
    refine zS 4 [(1, .bp 1 0), (21, .bool false), (22, .cv (undef)), (24, .cv (undef)), (26, .cv (undef))] [(1, .box 24 [.int .i64 s.1, .int .i64 s.2.1, .sl (.sl (.int .i64)) s.2.2.1, .sl (.sl (.int .i64)) s.2.2.2])] ?_
    refine zS 6 [(29, .bool false), (30, .cv (undef)), (32, .cv (undef))] [] ?_
    refine zB [(2, .bool false)] [] ?_
    refine AW.ret ?_
    obtain rfl := Option.some.inj h
    exact zR [] [] []
  ·refine zS 6 [(1, .bp 1 0), (16, .bool false), (17, .cv (undef))] [(1, .box 24 [.int .i64 s.1, .int .i64 s.2.1, .sl (.sl (.int .i64)) s.2.2.1, .sl (.sl (.int .i64)) s.2.2.2])] ?_
   refine zS 6 [(1, .bp 1 0), (21, .bool false), (22, .cv (undef)), (23, .cv (undef))] [(1, .box 24 [.int .i64 s.1, .int .i64 s.2.1, .sl (.sl (.int .i64)) s.2.2.1, .sl (.sl (.int .i64)) s.2.2.2])] ?_
   refine zS 4 [(1, .bp 1 0), (21, .bool false), (27, .cv (undef))] [(1, .box 24 [.int .i64 s.1, .int .i64 s.2.1, .sl (.sl (.int .i64)) s.2.2.1, .sl (.sl (.int .i64)) s.2.2.2])] ?_
   refine zS 6 [(29, .bool false), (33, .cv (undef))] [] ?_
   refine zB [(2, .bool false)] [] ?_
   refine AW.ret ?_
   obtain rfl := Option.some.inj h
   exact zR [] [] []
 ·refine zS 6 [(1, .bp 1 0), (11, .bool false), (12, .cv (undef))] [(1, .box 24 [.int .i64 s.1, .int .i64 s.2.1, .sl (.sl (.int .i64)) s.2.2.1, .sl (.sl (.int .i64)) s.2.2.2])] ?_
  refine zS 6 [(1, .bp 1 0), (16, .bool false), (18, .cv (undef))] [(1, .box 24 [.int .i64 s.1, .int .i64 s.2.1, .sl (.sl (.int .i64)) s.2.2.1, .sl (.sl (.int .i64)) s.2.2.2])] ?_
  refine zS 6 [(1, .bp 1 0), (21, .bool false), (22, .cv (undef)), (24, .cv (undef))] [(1, .box 24 [.int .i64 s.1, .int .i64 s.2.1, .sl (.sl (.int .i64)) s.2.2.1, .sl (.sl (.int .i64)) s.2.2.2])] ?_
  refine zS 6 [(1, .bp 1 0), (29, .bool false), (30, .cv (undef))] [(1, .box 24 [.int .i64 s.1, .int .i64 s.2.1, .sl (.sl (.int .i64)) s.2.2.1, .sl (.sl (.int .i64)) s.2.2.2])] ?_
  refine zB [(2, .bool false)] [] ?_
  refine AW.ret ?_
  obtain rfl := Option.some.inj h
  exact zR [] [] []

theorem hc_linealref01_SameLists (a : List (List Int)) (b : List (List Int)) {r : Bool} (h : linealref01_SameLists a b = some r) : HC Try.prog 81 [] [.sl (.sl (.int .i64)) a, .sl (.sl (.int .i64)) b] [] (.bool r) := by
 unfold linealref01_SameLists at h
 refine zH Try.func81 [.tmp 4] 27 ?_
 refine zo ?_
 refine zB [(0, .sl (.sl (.int .i64)) a), (1, .sl (.sl (.int .i64)) b)] [] ?_
 refine AW.seq ?_
 refine zo ?_
 refine zB [(0, .sl (.sl (.int .i64)) a), (1, .sl (.sl (.int .i64)) b), (10, .bool (!(decide ((a.length : Int) = (b.length : Int)))))] [] ?_
 refine zQ h (fun hb1 h => ?_) (fun hb1 h => ?_)
 ·refine zo ?_
  refine zB [(4, .bool false)] [] ?_
  refine zr ?_
  obtain rfl := Option.some.inj h
  exact zR [] [] []
 ·refine zk ?_
  refine AW.have1 (fun _ : Unit => linealref01_SameLists_k1 = some r) (fun _ => ⟨fr [], hpGet [], gt⟩) (fun _ h => ?_) (fun hk_linealref01_SameLists_k1 => ?_)
  ·as_aux_lemma =>
    unfold linealref01_SameLists_k1 at h
    refine zo ?_
    refine zB [(4, .bool true)] [] ?_
    refine AW.ret ?_
    obtain rfl := Option.some.inj h
    exact zR [] [] []
  ·refine AW.seq ?_
   refine zo ?_
   refine zB [(0, .sl (.sl (.int .i64)) a), (1, .sl (.sl (.int .i64)) b), (12, .int .i64 (a.length : Int)), (13, .int .i64 0)] [] ?_
   refine AW.block ?_
   obtain ⟨rv6, hw2, ho3⟩ := Option.bind_eq_some_iff.1 h
   refine AW.loopO (linealref01_SameLists_b1 a b) (fun st1 => ⟨fr [(0, .sl (.sl (.int .i64)) a), (1, .sl (.sl (.int .i64)) b), (12, .int .i64 (a.length : Int)), (13, .int .i64 st1)], hpGet [], gt⟩) 0 hw2 (zL [] [] []) ?_
   as_aux_lemma =>
    intro st1 x5 h hd4
    unfold linealref01_SameLists_b1 at h
    refine zo ?_
    refine zB [(0, .sl (.sl (.int .i64)) a), (1, .sl (.sl (.int .i64)) b), (12, .int .i64 (a.length : Int)), (13, .int .i64 st1), (14, .bool (decide (st1 < (a.length : Int))))] [] ?_
    refine AW.seq ?_
    refine zQ h (fun hb7 h => ?_) (fun hb7 h => ?_)
    ·refine zk ?_
     refine AW.seq ?_
     refine AW.block ?_
     refine zo ?_
     refine zB [(0, .sl (.sl (.int .i64)) a), (1, .sl (.sl (.int .i64)) b), (5, .int .i64 st1), (12, .int .i64 (a.length : Int)), (13, .int .i64 st1)] [] ?_
     refine AW.seq ?_
     refine AW.draw tab_ok mixed_ok [] [] (by decide) (lex_fast (by kernel_rfl)) ?_
     as_aux_lemma =>
      obtain ⟨c9, h⟩ := ck_some.1 h
      obtain ⟨c10, h⟩ := ck_some.1 h
      refine adops_cut 6 (fun K' hK8 => ?_)
      try dsimp only [List.drop_succ_cons, List.drop_zero, List.take_succ_cons, List.take_zero]
      simp only [go_sem, hb1, hb7]
      repeat with_reducible refine zN ?_
      refine hK8 _ ?_
      as_aux_lemma =>
       obtain ⟨c12, h⟩ := ck_some.1 h
       obtain ⟨c13, h⟩ := ck_some.1 h
       refine adops_cut 2 (fun K' hK11 => ?_)
       try dsimp only [List.drop_succ_cons, List.drop_zero, List.take_succ_cons, List.take_zero]
       simp only [go_sem, hb1, hb7]
       repeat with_reducible refine zN ?_
       refine hK11 _ ?_
       as_aux_lemma =>
        obtain ⟨v0, hv14, h⟩ := Option.bind_eq_some_iff.1 h
        refine adops.call (by first | trivial | rfl) rfl rfl rfl (fun _ h => h) [] [] (hc_linealref01_SameInts (a.getD st1.toNat []) (b.getD st1.toNat []) hv14) rfl (by (simp only [go_sem, hb1, hb7]) <;> (with_reducible and_intros) <;> first | assumption | rfl | omega | (unfold maxLen; omega)) (by (simp only [go_sem, hb1, hb7]) <;> (with_reducible and_intros) <;> first | assumption | rfl | omega | (unfold maxLen; omega)) rfl ?_
        refine adops_cut 1 (fun K' hK15 => ?_)
        try dsimp only [List.drop_succ_cons, List.drop_zero, List.take_succ_cons, List.take_zero]
        simp only [go_sem, hb1, hb7]
        repeat with_reducible refine zN ?_
        refine hK15 _ ?_
        refine adops_nil ?_
        refine athen_n ?_
        refine zV [(0, .sl (.sl (.int .i64)) a), (1, .sl (.sl (.int .i64)) b), (12, .int .i64 (a.length : Int)), (13, .int .i64 st1), (25, .bool (!v0))] [] gt ?_
        as_aux_lemma =>
         refine zQ h (fun hb16 h => ?_) (fun hb16 h => ?_)
         ·refine zo ?_
          refine zB [(4, .bool false)] [] ?_
          refine AW.ret ?_
          refine ablock_r ?_
          refine athen_r ?_
          obtain rfl := Option.some.inj h
          rw [← hd4 _ rfl] at ho3
          have h := ho3
          try simp only at h
          refine athen_r ?_
          refine ablock_r ?_
          refine athen_r ?_
          obtain rfl := Option.some.inj h
          exact zR [] [] []
         ·refine zm ?_
          refine athen_n ?_
          refine AW.ops ?_
          obtain ⟨c17, h⟩ := ck_some.1 h
          refine zA [(0, .sl (.sl (.int .i64)) a), (1, .sl (.sl (.int .i64)) b), (12, .int .i64 (a.length : Int)), (13, .int .i64 (st1 + 1))] [] ?_
          obtain rfl := Option.some.inj h
          exact ⟨_, rfl, zL [] [] []⟩
    ·refine AW.exit ?_
     refine athen_e ?_
     obtain rfl := Option.some.inj h
     rw [← hd4 _ rfl] at ho3
     have h := ho3
     try simp only at h
     refine athen_e ?_
     refine ablock_s ?_
     refine athen_n ?_
     exact AW.weaken (zL [] [] []) (hk_linealref01_SameLists_k1 () h)

theorem hc_linealref01_Equal (a : Int × Int × (List (List Int)) × (List (List Int))) (b : Int × Int × (List (List Int)) × (List (List Int))) {r : Bool} (h : linealref01_Equal a b = some r) : HC Try.prog 37 [] [.agg [.int .i64 a.1, .int .i64 a.2.1, .sl (.sl (.int .i64)) a.2.2.1, .sl (.sl (.int .i64)) a.2.2.2], .agg [.int .i64 b.1, .int .i64 b.2.1, .sl (.sl (.int .i64)) b.2.2.1, .sl (.sl (.int .i64)) b.2.2.2]] [] (.bool r) := by
 unfold linealref01_Equal at h
 refine zH Try.func37 [.tmp 4] 31 ?_
 refine zo ?_
 refine zB [(2, .bp 2 0), (3, .bp 3 0)] [(2, .box 24 [.int .i64 a.1, .int .i64 a.2.1, .sl (.sl (.int .i64)) a.2.2.1, .sl (.sl (.int .i64)) a.2.2.2]), (3, .box 24 [.int .i64 b.1, .int .i64 b.2.1, .sl (.sl (.int .i64)) b.2.2.1, .sl (.sl (.int .i64)) b.2.2.2])] ?_
 refine zo ?_
 refine zS 6 [(2, .bp 2 0), (3, .bp 3 0), (10, .bool (decide (a.1 = b.1)))] [(2, .box 24 [.int .i64 a.1, .int .i64 a.2.1, .sl (.sl (.int .i64)) a.2.2.1, .sl (.sl (.int .i64)) a.2.2.2]), (3, .box 24 [.int .i64 b.1, .int .i64 b.2.1, .sl (.sl (.int .i64)) b.2.2.1, .sl (.sl (.int .i64)) b.2.2.2])] ?_
 rcases zI h with ⟨hb1, h⟩ | ⟨hb1, h⟩
 ·refine zS 7 [(2, .bp 2 0), (3, .bp 3 0), (17, .bool (decide (a.2.1 = b.2.1)))] [(2, .box 24 [.int .i64 a.1, .int .i64 a.2.1, .sl (.sl (.int .i64)) a.2.2.1, .sl (.sl (.int .i64)) a.2.2.2]), (3, .box 24 [.int .i64 b.1, .int .i64 b.2.1, .sl (.sl (.int .i64)) b.2.2.1, .sl (.sl (.int .i64)) b.2.2.2])] ?_
  rcases zI h with ⟨hb2, h⟩ | ⟨hb2, h⟩
  ·refine zS 4 [(2, .bp 2 0), (3, .bp 3 0), (17, .bool true), (19, .sl (.sl (.int .i64)) a.2.2.1), (21, .sl (.sl (.int .i64)) b.2.2.1)] [(2, .box 24 [.int .i64 a.1, .int .i64 a.2.1, .sl (.sl (.int .i64)) a.2.2.1, .sl (.sl (.int .i64)) a.2.2.2]), (3, .box 24 [.int .i64 b.1, .int .i64 b.2.1, .sl (.sl (.int .i64)) b.2.2.1, .sl (.sl (.int .i64)) b.2.2.2])] ?_
   obtain ⟨v0, hv3, h⟩ := Option.bind_eq_some_iff.1 h
   refine zG [] [] (hc_linealref01_SameLists a.2.2.1 b.2.2.1 hv3) [(2, .bp 2 0), (3, .bp 3 0), (17, .bool true), (22, .bool v0)] [(2, .box 24 [.int .i64 a.1, .int .i64 a.2.1, .sl (.sl (.int .i64)) a.2.2.1, .sl (.sl (.int .i64)) a.2.2.2]), (3, .box 24 [.int .i64 b.1, .int .i64 b.2.1, .sl (.sl (.int .i64)) b.2.2.1, .sl (.sl (.int .i64)) b.2.2.2])] ?_
   refine zS 2 [(2, .bp 2 0), (3, .bp 3 0), (24, .bool v0)] [(2, .box 24 [.int .i64 a.1, .int .i64 a.2.1, .sl (.sl (.int .i64)) a.2.2.1, .sl (.sl (.int .i64)) a.2.2.2]), (3, .box 24 [.int .i64 b.1, .int .i64 b.2.1, .sl (.sl (.int .i64)) b.2.2.1, .sl (.sl (.int .i64)) b.2.2.2])] ?_
   rcases zI h with ⟨hb4, h⟩ | ⟨hb4, h⟩
   ·refine zS 4 [(24, .bool true), (26, .sl (.sl (.int .i64)) a.2.2.2), (28, .sl (.sl (.int .i64)) b.2.2.2)] [] ?_
    obtain ⟨v0_2, hv5, h⟩ := Option.bind_eq_some_iff.1 h
    refine zG [] [] (hc_linealref01_SameLists a.2.2.2 b.2.2.2 hv5) [(24, .bool true), (29, .bool v0_2)] [] ?_
    refine zB [(4, .bool v0_2)] [] ?_
    refine AW.ret ?_
    obtain rfl := Option.some.inj h
    exact zR [] [] []
   ·refine zS 4 [(24, .bool false), (26, .cv (undef)), (28, .cv (undef))] [] ?_
    refine zB [(4, .bool false)] [] ?_
    refine AW.ret ?_
    obtain rfl := Option.some.inj h
    exact zR [] [] []
  ·refine zS 4 [(2, .bp 2 0), (3, .bp 3 0), (17, .bool false), (19, .cv (undef)), (21, .cv (undef))] [(2, .box 24 [.int .i64 a.1, .int .i64 a.2.1, .sl (.sl (.int .i64)) a.2.2.1, .sl (.sl (.int .i64)) a.2.2.2]), (3, .box 24 [.int .i64 b.1, .int .i64 b.2.1, .sl (.sl (.int .i64)) b.2.2.1, .sl (.sl (.int .i64)) b.2.2.2])] ?_
   refine zS 6 [(24, .bool false), (26, .cv (undef)), (27, .cv (undef))] [] ?_
   refine zB [(4, .bool false)] [] ?_
   refine AW.ret ?_
   obtain rfl := Option.some.inj h
   exact zR [] [] []
 ·refine zS 4 [(2, .bp 2 0), (3, .bp 3 0), (10, .bool false), (12, .cv (undef)), (14, .cv (undef))] [(2, .box 24 [.int .i64 a.1, .int .i64 a.2.1, .sl (.sl (.int .i64)) a.2.2.1, .sl (.sl (.int .i64)) a.2.2.2]), (3, .box 24 [.int .i64 b.1, .int .i64 b.2.1, .sl (.sl (.int .i64)) b.2.2.1, .sl (.sl (.int .i64)) b.2.2.2])] ?_
  refine zS 6 [(2, .bp 2 0), (3, .bp 3 0), (17, .bool false), (19, .cv (undef)), (20, .cv (undef))] [(2, .box 24 [.int .i64 a.1, .int .i64 a.2.1, .sl (.sl (.int .i64)) a.2.2.1, .sl (.sl (.int .i64)) a.2.2.2]), (3, .box 24 [.int .i64 b.1, .int .i64 b.2.1, .sl (.sl (.int .i64)) b.2.2.1, .sl (.sl (.int .i64)) b.2.2.2])] ?_
  refine zS 6 [(3, .bp 3 0), (24, .bool false), (26, .cv (undef))] [(3, .box 24 [.int .i64 b.1, .int .i64 b.2.1, .sl (.sl (.int .i64)) b.2.2.1, .sl (.sl (.int .i64)) b.2.2.2])] ?_
  refine zB [(4, .bool false)] [] ?_
  refine AW.ret ?_
  obtain rfl := Option.some.inj h
  exact zR [] [] []

end Go.Proofs.Ytcgflignbhmoaaa
