/-
  Made by wip/tool/dc.py out of the print of the program: contracts.
-/
import Derived.Test.YtifleoceebaooaaRfp
import Derived.Test.YtifleoceebaooaaShr
import Derived.Test.YtifleoceebaooaaNmc2
import Derived.Test.YtifleoceebaooaaNmc4
import Derived.Test.YtifleoceebaooaaNmc5
namespace Go.Proofs.Ytifleoceebaooaa
open Go.RowKit

set_option linter.unusedSimpArgs false
set_option linter.unusedVariables false
set_option linter.constructorNameAsVariable false

set_option maxRecDepth 100000
set_option maxHeartbeats 2000000

theorem hc_linealref05_reached (s : Int × (List (Int × Int × Int))) {r : Int} (h : linealref05_reached s = some r) : HC Try.prog 68 [] [.agg [.int .i64 s.1, .sl (.pair (.int .i64) (.pair (.int .i64) (.int .i64))) s.2]] [] (.int .i64 r) := by
 unfold linealref05_reached at h
 refine zH Try.func68 [.tmp 2] 21 ?_
 refine zo ?_
 refine zB [(1, .bp 1 0)] [(1, .box 24 [.int .i64 s.1, .sl (.pair (.int .i64) (.pair (.int .i64) (.int .i64))) s.2])] ?_
 refine zo ?_
 refine zB [(1, .bp 1 0), (3, .int .i64 1)] [(1, .box 24 [.int .i64 s.1, .sl (.pair (.int .i64) (.pair (.int .i64) (.int .i64))) s.2])] ?_
 refine AW.have1 (fun b2_2 : Int => linealref05_reached_k1 b2_2 = some r) (fun b2_2 => ⟨fr [(3, .int .i64 b2_2)], hpGet [], gt⟩) (fun b2_2 h => ?_) (fun hk_linealref05_reached_k1 => ?_)
 ·as_aux_lemma =>
   unfold linealref05_reached_k1 at h
   refine zo ?_
   refine zB [(2, .int .i64 b2_2)] [] ?_
   refine AW.ret ?_
   obtain rfl := Option.some.inj h
   exact zR [] [] []
 ·refine AW.seq ?_
  refine zo ?_
  refine zB [(1, .bp 1 0), (3, .int .i64 1), (6, .int .i64 s.1), (7, .int .i64 0)] [(1, .box 24 [.int .i64 s.1, .sl (.pair (.int .i64) (.pair (.int .i64) (.int .i64))) s.2])] ?_
  refine AW.block ?_
  obtain ⟨rv5, hw1, ho2⟩ := Option.bind_eq_some_iff.1 h
  refine AW.loopO (linealref05_reached_b1 s) (fun st1 => ⟨fr [(1, .bp 1 0), (3, .int .i64 st1.1), (6, .int .i64 s.1), (7, .int .i64 st1.2)], hpGet [(1, .box 24 [.int .i64 s.1, .sl (.pair (.int .i64) (.pair (.int .i64) (.int .i64))) s.2])], gt⟩) (1, 0) hw1 (zL [] [] []) ?_
  as_aux_lemma =>
   intro st1 x4 h hd3
   unfold linealref05_reached_b1 at h
   refine zo ?_
   refine zB [(1, .bp 1 0), (3, .int .i64 st1.1), (6, .int .i64 s.1), (7, .int .i64 st1.2), (8, .bool (decide (st1.2 < s.1)))] [(1, .box 24 [.int .i64 s.1, .sl (.pair (.int .i64) (.pair (.int .i64) (.int .i64))) s.2])] ?_
   refine AW.seq ?_
   refine zQ h (fun hb6 h => ?_) (fun hb6 h => ?_)
   ·refine zk ?_
    refine AW.have1 (fun b2 : Int => linealref05_reached_k2 st1 b2 = some x4) (fun b2 => ⟨fr [(1, .bp 1 0), (3, .int .i64 b2), (6, .int .i64 s.1), (7, .int .i64 st1.2)], hpGet [(1, .box 24 [.int .i64 s.1, .sl (.pair (.int .i64) (.pair (.int .i64) (.int .i64))) s.2])], gt⟩) (fun b2 h => ?_) (fun hk_linealref05_reached_k2 => ?_)
    ·as_aux_lemma =>
      unfold linealref05_reached_k2 at h
      refine AW.ops ?_
      obtain ⟨c7, h⟩ := ck_some.1 h
      refine zA [(1, .bp 1 0), (3, .int .i64 b2), (6, .int .i64 s.1), (7, .int .i64 (st1.2 + 1))] [(1, .box 24 [.int .i64 s.1, .sl (.pair (.int .i64) (.pair (.int .i64) (.int .i64))) s.2])] ?_
      obtain rfl := Option.some.inj h
      exact ⟨_, rfl, zL [] [] []⟩
    ·refine AW.seq ?_
     refine AW.block ?_
     refine zo ?_
     refine zB [(1, .bp 1 0), (3, .int .i64 st1.1), (6, .int .i64 s.1), (7, .int .i64 st1.2), (9, .int .i64 0)] [(1, .box 24 [.int .i64 s.1, .sl (.pair (.int .i64) (.pair (.int .i64) (.int .i64))) s.2])] ?_
     refine AW.block ?_
     obtain ⟨rv12, hw8, ho9⟩ := Option.bind_eq_some_iff.1 h
     refine AW.loopO (linealref05_reached_b2 s) (fun st2 => ⟨fr [(1, .bp 1 0), (3, .int .i64 st2.1), (6, .int .i64 s.1), (7, .int .i64 st1.2), (9, .int .i64 st2.2)], hpGet [(1, .box 24 [.int .i64 s.1, .sl (.pair (.int .i64) (.pair (.int .i64) (.int .i64))) s.2])], gt⟩) (st1.1, 0) hw8 (zL [] [] []) ?_
     as_aux_lemma =>
      intro st2 x11 h hd10
      unfold linealref05_reached_b2 at h
      refine zo ?_
      refine zB [(1, .bp 1 0), (3, .int .i64 st2.1), (6, .int .i64 s.1), (7, .int .i64 st1.2), (9, .int .i64 st2.2), (10, .bool (decide (st2.2 < 4)))] [(1, .box 24 [.int .i64 s.1, .sl (.pair (.int .i64) (.pair (.int .i64) (.int .i64))) s.2])] ?_
      refine AW.seq ?_
      refine zQ h (fun hb13 h => ?_) (fun hb13 h => ?_)
      ·refine zk ?_
       refine AW.seq ?_
       refine AW.block ?_
       refine zo ?_
       refine zB [(1, .bp 1 0), (3, .int .i64 st2.1), (4, .int .i64 st2.2), (6, .int .i64 s.1), (7, .int .i64 st1.2), (9, .int .i64 st2.2)] [(1, .box 24 [.int .i64 s.1, .sl (.pair (.int .i64) (.pair (.int .i64) (.int .i64))) s.2])] ?_
       refine AW.ops ?_
       refine zS 4 [(1, .bp 1 0), (6, .int .i64 s.1), (7, .int .i64 st1.2), (9, .int .i64 st2.2), (12, .int .i64 st2.1), (13, .agg [.int .i64 s.1, .sl (.pair (.int .i64) (.pair (.int .i64) (.int .i64))) s.2]), (14, .int .i64 st2.1), (15, .int .i64 st2.2)] [(1, .box 24 [.int .i64 s.1, .sl (.pair (.int .i64) (.pair (.int .i64) (.int .i64))) s.2])] ?_
       obtain ⟨v0, hv14, h⟩ := Option.bind_eq_some_iff.1 h
       refine zC [] [] (hc_linealref05_step s st2.1 st2.2 hv14) [(1, .bp 1 0), (6, .int .i64 s.1), (7, .int .i64 st1.2), (9, .int .i64 st2.2), (12, .int .i64 st2.1), (16, .int .i64 v0)] [(1, .box 24 [.int .i64 s.1, .sl (.pair (.int .i64) (.pair (.int .i64) (.int .i64))) s.2])] ?_
       refine zA [(1, .bp 1 0), (3, .int .i64 (ior .i64 st2.1 v0)), (6, .int .i64 s.1), (7, .int .i64 st1.2), (9, .int .i64 st2.2)] [(1, .box 24 [.int .i64 s.1, .sl (.pair (.int .i64) (.pair (.int .i64) (.int .i64))) s.2])] ?_
       refine ablock_n ?_
       refine athen_n ?_
       refine AW.ops ?_
       obtain ⟨c15, h⟩ := ck_some.1 h
       refine zA [(1, .bp 1 0), (3, .int .i64 (ior .i64 st2.1 v0)), (6, .int .i64 s.1), (7, .int .i64 st1.2), (9, .int .i64 (st2.2 + 1))] [(1, .box 24 [.int .i64 s.1, .sl (.pair (.int .i64) (.pair (.int .i64) (.int .i64))) s.2])] ?_
       obtain rfl := Option.some.inj h
       exact ⟨_, rfl, zL [] [] []⟩
      ·refine AW.exit ?_
       refine athen_e ?_
       obtain rfl := Option.some.inj h
       rw [← hd10 _ rfl] at ho9
       have h := ho9
       refine athen_e ?_
       refine ablock_s ?_
       refine ablock_n ?_
       refine athen_n ?_
       exact AW.weaken (zL [] [] []) (hk_linealref05_reached_k2 _ h)
   ·refine AW.exit ?_
    refine athen_e ?_
    obtain rfl := Option.some.inj h
    rw [← hd3 _ rfl] at ho2
    have h := ho2
    refine athen_e ?_
    refine ablock_s ?_
    refine athen_n ?_
    exact AW.weaken (zL [] [] []) (hk_linealref05_reached_k1 _ h)

theorem hc_linealref05_Reached (s : Int × (List (Int × Int × Int))) {r : (List Int) × Int} (h : linealref05_Reached s = some r) : HC Try.prog 24 [] [.agg [.int .i64 s.1, .sl (.pair (.int .i64) (.pair (.int .i64) (.int .i64))) s.2]] [(2000, .arr 3 (.int .i64) r.1)] (.tup [.own 2000, .int .i64 r.2]) := by
 unfold linealref05_Reached at h
 refine zH Try.func24 [.tmp 2, .tmp 3] 10 ?_
 refine zo ?_
 refine zB [(1, .bp 1 0)] [(1, .box 24 [.int .i64 s.1, .sl (.pair (.int .i64) (.pair (.int .i64) (.int .i64))) s.2])] ?_
 refine AW.seq ?_
 refine zo ?_
 refine zS 1 [(1, .bp 1 0), (4, .agg [.int .i64 s.1, .sl (.pair (.int .i64) (.pair (.int .i64) (.int .i64))) s.2])] [(1, .box 24 [.int .i64 s.1, .sl (.pair (.int .i64) (.pair (.int .i64) (.int .i64))) s.2])] ?_
 obtain ⟨v0, hv1, h⟩ := Option.bind_eq_some_iff.1 h
 refine zC [] [] (hc_linealref05_Valid s hv1) [(1, .bp 1 0), (5, .bool v0)] [(1, .box 24 [.int .i64 s.1, .sl (.pair (.int .i64) (.pair (.int .i64) (.int .i64))) s.2])] ?_
 refine zB [(1, .bp 1 0), (6, .bool (!v0))] [(1, .box 24 [.int .i64 s.1, .sl (.pair (.int .i64) (.pair (.int .i64) (.int .i64))) s.2])] ?_
 refine zQ h (fun hb2 h => ?_) (fun hb2 h => ?_)
 ·refine zo ?_
  refine zB [(2, .cv (.slice none 0 0)), (3, .int .i64 50)] [] ?_
  refine zr ?_
  obtain rfl := Option.some.inj h
  exact zR [] [2000] []
 ·refine zk ?_
  refine zo ?_
  refine zS 1 [(7, .agg [.int .i64 s.1, .sl (.pair (.int .i64) (.pair (.int .i64) (.int .i64))) s.2])] [] ?_
  obtain ⟨v0_2, hv3, h⟩ := Option.bind_eq_some_iff.1 h
  refine zC [] [] (hc_linealref05_reached s hv3) [(8, .int .i64 v0_2)] [] ?_
  obtain ⟨v0_3, hv4, h⟩ := Option.bind_eq_some_iff.1 h
  refine zC [] [] (hc_linealref05_list v0_2 hv4) [(9, .own 19000)] [(19000, .arr 3 (.int .i64) v0_3)] ?_
  refine zB [(2, .own 19000), (3, .int .i64 0)] [(19000, .arr 3 (.int .i64) v0_3)] ?_
  refine AW.ret ?_
  obtain rfl := Option.some.inj h
  exact zR [] [] [(2000, 19000)]

theorem hc_refine_frame_isStuck_1 (step : Int × Int × Int) (a1 : Int) {r : Unit} (h : refine_frame_isStuck_1 step a1 = some r) : HC Try.prog 107 [(1000, .box 3 [.int .i64 a1])] [.agg [.int .i64 step.1, .int .i64 step.2.1, .int .i64 step.2.2], .bp 1000 0] [(1000, .box 3 [.int .i64 a1])] (.bool (decide (step.1 = a1))) := by
 unfold refine_frame_isStuck_1 at h
 refine zH Try.func107 [.tmp 3] 8 ?_
 refine zo ?_
 refine zB [(1, .bp 1000 0), (2, .bp 2 0)] [(2, .box 66 [.int .i64 step.1, .int .i64 step.2.1, .int .i64 step.2.2]), (1000, .box 3 [.int .i64 a1])] ?_
 refine zo ?_
 refine zB [(3, .bool (decide (step.1 = a1)))] [(1000, .box 3 [.int .i64 a1])] ?_
 refine AW.ret ?_
 obtain rfl := Option.some.inj h
 exact zR [] [] []

theorem hc_slices_IndexFunc_4 (s : List (Int × Int × Int)) (c0 : Int) {r : Int} (h : slices_IndexFunc_4 s c0 = some r) : HC Try.prog 127 [(1000, .box 3 [.int .i64 c0])] [.sl (.pair (.int .i64) (.pair (.int .i64) (.int .i64))) s, .fn (.func 107) [] [.bp 1000 0]] [(1000, .box 3 [.int .i64 c0])] (.int .i64 r) := by
 unfold slices_IndexFunc_4 at h
 refine zH Try.func127 [.tmp 4] 19 ?_
 refine zo ?_
 refine zB [(0, .sl (.pair (.int .i64) (.pair (.int .i64) (.int .i64))) s), (1, .fn (.func 107) [] [.bp 1000 0])] [(1000, .box 3 [.int .i64 c0])] ?_
 refine AW.have1 (fun _ : Unit => slices_IndexFunc_4_k1 = some r) (fun _ => ⟨fr [], hpGet [(1000, .box 3 [.int .i64 c0])], gt⟩) (fun _ h => ?_) (fun hk_slices_IndexFunc_4_k1 => ?_)
 ·as_aux_lemma =>
   unfold slices_IndexFunc_4_k1 at h
   refine zo ?_
   refine zB [(4, .int .i64 (-1))] [(1000, .box 3 [.int .i64 c0])] ?_
   refine AW.ret ?_
   obtain rfl := Option.some.inj h
   exact zR [] [] []
 ·refine AW.seq ?_
  refine zo ?_
  refine zB [(0, .sl (.pair (.int .i64) (.pair (.int .i64) (.int .i64))) s), (1, .fn (.func 107) [] [.bp 1000 0]), (7, .int .i64 (s.length : Int)), (8, .int .i64 0)] [(1000, .box 3 [.int .i64 c0])] ?_
  refine AW.block ?_
  obtain ⟨rv5, hw1, ho2⟩ := Option.bind_eq_some_iff.1 h
  refine AW.loopO (slices_IndexFunc_4_b1 s c0) (fun st1 => ⟨fr [(0, .sl (.pair (.int .i64) (.pair (.int .i64) (.int .i64))) s), (1, .fn (.func 107) [] [.bp 1000 0]), (7, .int .i64 (s.length : Int)), (8, .int .i64 st1)], hpGet [(1000, .box 3 [.int .i64 c0])], gt⟩) 0 hw1 (zL [] [] []) ?_
  as_aux_lemma =>
   intro st1 x4 h hd3
   unfold slices_IndexFunc_4_b1 at h
   refine zo ?_
   refine zB [(0, .sl (.pair (.int .i64) (.pair (.int .i64) (.int .i64))) s), (1, .fn (.func 107) [] [.bp 1000 0]), (7, .int .i64 (s.length : Int)), (8, .int .i64 st1), (9, .bool (decide (st1 < (s.length : Int))))] [(1000, .box 3 [.int .i64 c0])] ?_
   refine AW.seq ?_
   refine zQ h (fun hb6 h => ?_) (fun hb6 h => ?_)
   ·refine zk ?_
    refine AW.seq ?_
    refine AW.block ?_
    refine zo ?_
    refine zB [(0, .sl (.pair (.int .i64) (.pair (.int .i64) (.int .i64))) s), (1, .fn (.func 107) [] [.bp 1000 0]), (5, .int .i64 st1), (7, .int .i64 (s.length : Int)), (8, .int .i64 st1)] [(1000, .box 3 [.int .i64 c0])] ?_
    refine zo ?_
    obtain ⟨c7, h⟩ := ck_some.1 h
    obtain ⟨c8, h⟩ := ck_some.1 h
    refine zS 5 [(0, .sl (.pair (.int .i64) (.pair (.int .i64) (.int .i64))) s), (1, .fn (.func 107) [] [.bp 1000 0]), (5, .int .i64 st1), (7, .int .i64 (s.length : Int)), (8, .int .i64 st1), (11, .fn (.func 107) [] [.bp 1000 0]), (15, .agg [.int .i64 (s.getD st1.toNat (0, 0, 0)).1, .int .i64 (s.getD st1.toNat (0, 0, 0)).2.1, .int .i64 (s.getD st1.toNat (0, 0, 0)).2.2])] [(1000, .box 3 [.int .i64 c0])] ?_
    obtain ⟨v0, hv9, h⟩ := Option.bind_eq_some_iff.1 h
    refine zC [] [(1000, 1000)] (hc_refine_frame_isStuck_1 (s.getD st1.toNat (0, 0, 0)) c0 hv9) [(0, .sl (.pair (.int .i64) (.pair (.int .i64) (.int .i64))) s), (1, .fn (.func 107) [] [.bp 1000 0]), (5, .int .i64 st1), (7, .int .i64 (s.length : Int)), (8, .int .i64 st1), (16, .bool (decide ((s.getD st1.toNat (0, 0, 0)).1 = c0)))] [(1000, .box 3 [.int .i64 c0])] ?_
    refine zB [(0, .sl (.pair (.int .i64) (.pair (.int .i64) (.int .i64))) s), (1, .fn (.func 107) [] [.bp 1000 0]), (5, .int .i64 st1), (7, .int .i64 (s.length : Int)), (8, .int .i64 st1), (16, .bool (decide ((s.getD st1.toNat (0, 0, 0)).1 = c0)))] [(1000, .box 3 [.int .i64 c0])] ?_
    refine zQ h (fun hb10 h => ?_) (fun hb10 h => ?_)
    ·refine zo ?_
     refine zB [(4, .int .i64 st1)] [(1000, .box 3 [.int .i64 c0])] ?_
     refine AW.ret ?_
     refine ablock_r ?_
     refine athen_r ?_
     obtain rfl := Option.some.inj h
     rw [← hd3 _ rfl] at ho2
     have h := ho2
     try simp only at h
     refine athen_r ?_
     refine ablock_r ?_
     refine athen_r ?_
     obtain rfl := Option.some.inj h
     exact zR [] [] []
    ·refine zm ?_
     refine athen_n ?_
     refine AW.ops ?_
     obtain ⟨c11, h⟩ := ck_some.1 h
     refine zA [(0, .sl (.pair (.int .i64) (.pair (.int .i64) (.int .i64))) s), (1, .fn (.func 107) [] [.bp 1000 0]), (7, .int .i64 (s.length : Int)), (8, .int .i64 (st1 + 1))] [(1000, .box 3 [.int .i64 c0])] ?_
     obtain rfl := Option.some.inj h
     exact ⟨_, rfl, zL [] [] []⟩
   ·refine AW.exit ?_
    refine athen_e ?_
    obtain rfl := Option.some.inj h
    rw [← hd3 _ rfl] at ho2
    have h := ho2
    try simp only at h
    refine athen_e ?_
    refine ablock_s ?_
    refine athen_n ?_
    exact AW.weaken (zL [] [] []) (hk_slices_IndexFunc_4_k1 () h)

theorem hc_slices_ContainsFunc_3 (s : List (Int × Int × Int)) (c0 : Int) {r : Bool} (h : slices_ContainsFunc_3 s c0 = some r) : HC Try.prog 106 [(1000, .box 3 [.int .i64 c0])] [.sl (.pair (.int .i64) (.pair (.int .i64) (.int .i64))) s, .fn (.func 107) [] [.bp 1000 0]] [(1000, .box 3 [.int .i64 c0])] (.bool r) := by
 unfold slices_ContainsFunc_3 at h
 refine zH Try.func106 [.tmp 4] 9 ?_
 refine zo ?_
 refine zB [(0, .sl (.pair (.int .i64) (.pair (.int .i64) (.int .i64))) s), (1, .fn (.func 107) [] [.bp 1000 0])] [(1000, .box 3 [.int .i64 c0])] ?_
 refine zo ?_
 refine zS 2 [(5, .sl (.pair (.int .i64) (.pair (.int .i64) (.int .i64))) s), (6, .fn (.func 107) [] [.bp 1000 0])] [(1000, .box 3 [.int .i64 c0])] ?_
 obtain ⟨v0, hv1, h⟩ := Option.bind_eq_some_iff.1 h
 refine zC [] [(1000, 1000)] (hc_slices_IndexFunc_4 s c0 hv1) [(7, .int .i64 v0)] [(1000, .box 3 [.int .i64 c0])] ?_
 refine zB [(4, .bool (decide (0 ≤ v0)))] [(1000, .box 3 [.int .i64 c0])] ?_
 refine AW.ret ?_
 obtain rfl := Option.some.inj h
 exact zR [] [] []

theorem hc_refine_frame_isStuck (f : (Int × (List (Int × Int × Int))) × (El T69)) (state : Int) {r : Bool} (h : refine_frame_isStuck f state = some r) : HC Try.prog 70 [] [.agg (.int .i64 f.1.1 :: (.sl (.pair (.int .i64) (.pair (.int .i64) (.int .i64))) f.1.2 :: (cellsX T69 f.2))), .int .i64 state] [] (.bool r) := by
 unfold refine_frame_isStuck at h
 refine zH Try.func70 [.tmp 4] 11 ?_
 refine zo ?_
 refine zB [(2, .bp 2 0), (3, .bp 3 0)] [(2, .box 71 (.int .i64 f.1.1 :: (.sl (.pair (.int .i64) (.pair (.int .i64) (.int .i64))) f.1.2 :: (cellsX T69 f.2)))), (3, .box 3 [.int .i64 state])] ?_
 refine zo ?_
 refine zS 4 [(7, .sl (.pair (.int .i64) (.pair (.int .i64) (.int .i64))) f.1.2), (8, .fn (.func 107) [] [.bp 3 0])] [(3, .box 3 [.int .i64 state])] ?_
 obtain ⟨v0, hv1, h⟩ := Option.bind_eq_some_iff.1 h
 refine zC [] [(1000, 3)] (hc_slices_ContainsFunc_3 f.1.2 state hv1) [(9, .bool v0)] [] ?_
 refine zB [(4, .bool (!v0))] [] ?_
 refine AW.ret ?_
 obtain rfl := Option.some.inj h
 exact zR [] [] []

theorem hc_refine_Stuck_1 (state : Int) (a1 : (Int × (List (Int × Int × Int))) × (El T69)) {r : Bool} (h : refine_Stuck_1 state a1 = some r) : HC Try.prog 69 [] [.int .i64 state, .dp (.pair (.pair (.int .i64) (.sl (.pair (.int .i64) (.pair (.int .i64) (.int .i64))))) T69) a1 0] [] (.bool r) := by
 unfold refine_Stuck_1 at h
 refine zH Try.func69 [.tmp 3] 8 ?_
 refine zo ?_
 refine zB [(0, .int .i64 state), (1, .dp (.pair (.pair (.int .i64) (.sl (.pair (.int .i64) (.pair (.int .i64) (.int .i64))))) T69) a1 0)] [] ?_
 refine zo ?_
 refine zS 2 [(4, .agg (.int .i64 a1.1.1 :: (.sl (.pair (.int .i64) (.pair (.int .i64) (.int .i64))) a1.1.2 :: (cellsX T69 a1.2)))), (5, .int .i64 state)] [] ?_
 obtain ⟨v0, hv1, h⟩ := Option.bind_eq_some_iff.1 h
 refine zC [] [] (hc_refine_frame_isStuck a1 state hv1) [(6, .bool v0)] [] ?_
 refine zB [(3, .bool (!v0))] [] ?_
 refine AW.ret ?_
 obtain rfl := Option.some.inj h
 exact zR [] [] []

theorem hc_slices_IndexFunc_3 (s : List Int) (c0 : (Int × (List (Int × Int × Int))) × (El T69)) {r : Int} (h : slices_IndexFunc_3 s c0 = some r) : HC Try.prog 108 [] [.sl (.int .i64) s, .fn (.func 69) [] [.dp (.pair (.pair (.int .i64) (.sl (.pair (.int .i64) (.pair (.int .i64) (.int .i64))))) T69) c0 0]] [] (.int .i64 r) := by
 unfold slices_IndexFunc_3 at h
 refine zH Try.func108 [.tmp 4] 19 ?_
 refine zo ?_
 refine zB [(0, .sl (.int .i64) s), (1, .fn (.func 69) [] [.dp (.pair (.pair (.int .i64) (.sl (.pair (.int .i64) (.pair (.int .i64) (.int .i64))))) T69) c0 0])] [] ?_
 refine AW.have1 (fun _ : Unit => slices_IndexFunc_3_k1 = some r) (fun _ => ⟨fr [], hpGet [], gt⟩) (fun _ h => ?_) (fun hk_slices_IndexFunc_3_k1 => ?_)
 ·as_aux_lemma =>
   unfold slices_IndexFunc_3_k1 at h
   refine zo ?_
   refine zB [(4, .int .i64 (-1))] [] ?_
   refine AW.ret ?_
   obtain rfl := Option.some.inj h
   exact zR [] [] []
 ·refine AW.seq ?_
  refine zo ?_
  refine zB [(0, .sl (.int .i64) s), (1, .fn (.func 69) [] [.dp (.pair (.pair (.int .i64) (.sl (.pair (.int .i64) (.pair (.int .i64) (.int .i64))))) T69) c0 0]), (7, .int .i64 (s.length : Int)), (8, .int .i64 0)] [] ?_
  refine AW.block ?_
  obtain ⟨rv5, hw1, ho2⟩ := Option.bind_eq_some_iff.1 h
  refine AW.loopO (slices_IndexFunc_3_b1 s c0) (fun st1 => ⟨fr [(0, .sl (.int .i64) s), (1, .fn (.func 69) [] [.dp (.pair (.pair (.int .i64) (.sl (.pair (.int .i64) (.pair (.int .i64) (.int .i64))))) T69) c0 0]), (7, .int .i64 (s.length : Int)), (8, .int .i64 st1)], hpGet [], gt⟩) 0 hw1 (zL [] [] []) ?_
  as_aux_lemma =>
   intro st1 x4 h hd3
   unfold slices_IndexFunc_3_b1 at h
   refine zo ?_
   refine zB [(0, .sl (.int .i64) s), (1, .fn (.func 69) [] [.dp (.pair (.pair (.int .i64) (.sl (.pair (.int .i64) (.pair (.int .i64) (.int .i64))))) T69) c0 0]), (7, .int .i64 (s.length : Int)), (8, .int .i64 st1), (9, .bool (decide (st1 < (s.length : Int))))] [] ?_
   refine AW.seq ?_
   refine zQ h (fun hb6 h => ?_) (fun hb6 h => ?_)
   ·refine zk ?_
    refine AW.seq ?_
    refine AW.block ?_
    refine zo ?_
    refine zB [(0, .sl (.int .i64) s), (1, .fn (.func 69) [] [.dp (.pair (.pair (.int .i64) (.sl (.pair (.int .i64) (.pair (.int .i64) (.int .i64))))) T69) c0 0]), (5, .int .i64 st1), (7, .int .i64 (s.length : Int)), (8, .int .i64 st1)] [] ?_
    refine zo ?_
    obtain ⟨c7, h⟩ := ck_some.1 h
    obtain ⟨c8, h⟩ := ck_some.1 h
    refine zS 5 [(0, .sl (.int .i64) s), (1, .fn (.func 69) [] [.dp (.pair (.pair (.int .i64) (.sl (.pair (.int .i64) (.pair (.int .i64) (.int .i64))))) T69) c0 0]), (5, .int .i64 st1), (7, .int .i64 (s.length : Int)), (8, .int .i64 st1), (11, .fn (.func 69) [] [.dp (.pair (.pair (.int .i64) (.sl (.pair (.int .i64) (.pair (.int .i64) (.int .i64))))) T69) c0 0]), (15, .int .i64 (s.getD st1.toNat 0))] [] ?_
    obtain ⟨v0, hv9, h⟩ := Option.bind_eq_some_iff.1 h
    refine zC [] [] (hc_refine_Stuck_1 (s.getD st1.toNat 0) c0 hv9) [(0, .sl (.int .i64) s), (1, .fn (.func 69) [] [.dp (.pair (.pair (.int .i64) (.sl (.pair (.int .i64) (.pair (.int .i64) (.int .i64))))) T69) c0 0]), (5, .int .i64 st1), (7, .int .i64 (s.length : Int)), (8, .int .i64 st1), (16, .bool v0)] [] ?_
    refine zB [(0, .sl (.int .i64) s), (1, .fn (.func 69) [] [.dp (.pair (.pair (.int .i64) (.sl (.pair (.int .i64) (.pair (.int .i64) (.int .i64))))) T69) c0 0]), (5, .int .i64 st1), (7, .int .i64 (s.length : Int)), (8, .int .i64 st1), (16, .bool v0)] [] ?_
    refine zQ h (fun hb10 h => ?_) (fun hb10 h => ?_)
    ·refine zo ?_
     refine zB [(4, .int .i64 st1)] [] ?_
     refine AW.ret ?_
     refine ablock_r ?_
     refine athen_r ?_
     obtain rfl := Option.some.inj h
     rw [← hd3 _ rfl] at ho2
     have h := ho2
     try simp only at h
     refine athen_r ?_
     refine ablock_r ?_
     refine athen_r ?_
     obtain rfl := Option.some.inj h
     exact zR [] [] []
    ·refine zm ?_
     refine athen_n ?_
     refine AW.ops ?_
     obtain ⟨c11, h⟩ := ck_some.1 h
     refine zA [(0, .sl (.int .i64) s), (1, .fn (.func 69) [] [.dp (.pair (.pair (.int .i64) (.sl (.pair (.int .i64) (.pair (.int .i64) (.int .i64))))) T69) c0 0]), (7, .int .i64 (s.length : Int)), (8, .int .i64 (st1 + 1))] [] ?_
     obtain rfl := Option.some.inj h
     exact ⟨_, rfl, zL [] [] []⟩
   ·refine AW.exit ?_
    refine athen_e ?_
    obtain rfl := Option.some.inj h
    rw [← hd3 _ rfl] at ho2
    have h := ho2
    try simp only at h
    refine athen_e ?_
    refine ablock_s ?_
    refine athen_n ?_
    exact AW.weaken (zL [] [] []) (hk_slices_IndexFunc_3_k1 () h)

theorem hc_refine_Stuck_1_2 (state : Int) (a1 : (Int × (List (Int × Int × Int))) × (El T69)) {r : Bool} (h : refine_Stuck_1_2 state a1 = some r) : HC Try.prog 69 [(1000, .box 71 (.int .i64 a1.1.1 :: (.sl (.pair (.int .i64) (.pair (.int .i64) (.int .i64))) a1.1.2 :: (cellsX T69 a1.2))))] [.int .i64 state, .bp 1000 0] [(1000, .box 71 (.int .i64 a1.1.1 :: (.sl (.pair (.int .i64) (.pair (.int .i64) (.int .i64))) a1.1.2 :: (cellsX T69 a1.2))))] (.bool r) := by
 unfold refine_Stuck_1_2 at h
 refine zH Try.func69 [.tmp 3] 8 ?_
 refine zo ?_
 refine zB [(0, .int .i64 state), (1, .bp 1000 0)] [(1000, .box 71 (.int .i64 a1.1.1 :: (.sl (.pair (.int .i64) (.pair (.int .i64) (.int .i64))) a1.1.2 :: (cellsX T69 a1.2))))] ?_
 refine zo ?_
 refine zS 2 [(4, .agg (.int .i64 a1.1.1 :: (.sl (.pair (.int .i64) (.pair (.int .i64) (.int .i64))) a1.1.2 :: (cellsX T69 a1.2)))), (5, .int .i64 state)] [(1000, .box 71 (.int .i64 a1.1.1 :: (.sl (.pair (.int .i64) (.pair (.int .i64) (.int .i64))) a1.1.2 :: (cellsX T69 a1.2))))] ?_
 obtain ⟨v0, hv1, h⟩ := Option.bind_eq_some_iff.1 h
 refine zC [] [] (hc_refine_frame_isStuck a1 state hv1) [(6, .bool v0)] [(1000, .box 71 (.int .i64 a1.1.1 :: (.sl (.pair (.int .i64) (.pair (.int .i64) (.int .i64))) a1.1.2 :: (cellsX T69 a1.2))))] ?_
 refine zB [(3, .bool (!v0))] [(1000, .box 71 (.int .i64 a1.1.1 :: (.sl (.pair (.int .i64) (.pair (.int .i64) (.int .i64))) a1.1.2 :: (cellsX T69 a1.2))))] ?_
 refine AW.ret ?_
 obtain rfl := Option.some.inj h
 exact zR [] [] []

theorem hc_slices_DeleteFunc (s : List Int) (c0 : (Int × (List (Int × Int × Int))) × (El T69)) {r : (List Int)} (h : slices_DeleteFunc s c0 = some r) : HC Try.prog 71 [(1000, .arr 3 (.int .i64) s), (1001, .box 71 (.int .i64 c0.1.1 :: (.sl (.pair (.int .i64) (.pair (.int .i64) (.int .i64))) c0.1.2 :: (cellsX T69 c0.2))))] [.own 1000, .fn (.func 69) [] [.bp 1001 0]] [(1001, .box 71 (.int .i64 c0.1.1 :: (.sl (.pair (.int .i64) (.pair (.int .i64) (.int .i64))) c0.1.2 :: (cellsX T69 c0.2)))), (2000, .arr 3 (.int .i64) r)] (.own 2000) := by
 unfold slices_DeleteFunc at h
 refine zH Try.func71 [.tmp 4] 42 ?_
 refine zo ?_
 refine zB [(0, .own 1000), (1, .fn (.func 69) [] [.bp 1001 0])] [(1000, .arr 3 (.int .i64) s), (1001, .box 71 (.int .i64 c0.1.1 :: (.sl (.pair (.int .i64) (.pair (.int .i64) (.int .i64))) c0.1.2 :: (cellsX T69 c0.2))))] ?_
 refine zo ?_
 refine zS 2 [(0, .own 1000), (1, .fn (.func 69) [] [.bp 1001 0]), (8, .own 1000), (9, .fn (.func 69) [] [.bp 1001 0])] [(1000, .arr 3 (.int .i64) s), (1001, .box 71 (.int .i64 c0.1.1 :: (.sl (.pair (.int .i64) (.pair (.int .i64) (.int .i64))) c0.1.2 :: (cellsX T69 c0.2))))] ?_
 obtain ⟨v0, hv1, h⟩ := Option.bind_eq_some_iff.1 h
 refine zC [1000, 1000001001] [] (hc_slices_IndexFunc_3 s c0 hv1) [(0, .own 1000), (1, .fn (.func 69) [] [.bp 1001 0]), (10, .int .i64 v0)] [(1000, .arr 3 (.int .i64) s), (1001, .box 71 (.int .i64 c0.1.1 :: (.sl (.pair (.int .i64) (.pair (.int .i64) (.int .i64))) c0.1.2 :: (cellsX T69 c0.2))))] ?_
 refine zB [(0, .own 1000), (1, .fn (.func 69) [] [.bp 1001 0]), (5, .int .i64 v0)] [(1000, .arr 3 (.int .i64) s), (1001, .box 71 (.int .i64 c0.1.1 :: (.sl (.pair (.int .i64) (.pair (.int .i64) (.int .i64))) c0.1.2 :: (cellsX T69 c0.2))))] ?_
 refine AW.seq ?_
 refine zo ?_
 refine zB [(0, .own 1000), (1, .fn (.func 69) [] [.bp 1001 0]), (5, .int .i64 v0), (12, .bool (decide (v0 = (-1))))] [(1000, .arr 3 (.int .i64) s), (1001, .box 71 (.int .i64 c0.1.1 :: (.sl (.pair (.int .i64) (.pair (.int .i64) (.int .i64))) c0.1.2 :: (cellsX T69 c0.2))))] ?_
 refine zQ h (fun hb2 h => ?_) (fun hb2 h => ?_)
 ·refine zo ?_
  refine zB [(4, .own 1000)] [(1000, .arr 3 (.int .i64) s), (1001, .box 71 (.int .i64 c0.1.1 :: (.sl (.pair (.int .i64) (.pair (.int .i64) (.int .i64))) c0.1.2 :: (cellsX T69 c0.2))))] ?_
  refine zr ?_
  obtain rfl := Option.some.inj h
  exact zR [] [] [(2000, 1000)]
 ·refine zk ?_
  refine AW.have1 (fun b1 : (List Int) × Int => slices_DeleteFunc_k1 b1 = some r) (fun b1 => ⟨fr [(0, .own 1000), (5, .int .i64 b1.2)], hpGet [(1000, .arr 3 (.int .i64) b1.1), (1001, .box 71 (.int .i64 c0.1.1 :: (.sl (.pair (.int .i64) (.pair (.int .i64) (.int .i64))) c0.1.2 :: (cellsX T69 c0.2))))], gt⟩) (fun b1 h => ?_) (fun hk_slices_DeleteFunc_k1 => ?_)
  ·as_aux_lemma =>
    unfold slices_DeleteFunc_k1 at h
    refine zo ?_
    refine zS 2 [(0, .own 1000), (5, .int .i64 b1.2), (36, .own 1000), (37, .int .i64 b1.2)] [(1000, .arr 3 (.int .i64) b1.1), (1001, .box 71 (.int .i64 c0.1.1 :: (.sl (.pair (.int .i64) (.pair (.int .i64) (.int .i64))) c0.1.2 :: (cellsX T69 c0.2))))] ?_
    obtain ⟨c3, h⟩ := ck_some.1 h
    obtain ⟨c4, h⟩ := ck_some.1 h
    refine AO.sliceView tab_ok (by decide) rfl rfl tab_27 rfl tab_3 rfl rfl rfl (b1.2) ((b1.1.length : Int)) (by first | assumption | omega | (simp only [go_sem, hb2]) <;> (with_reducible and_intros) <;> first | assumption | rfl | omega | (unfold maxLen; omega)) (by first | assumption | omega | (simp only [go_sem, hb2]) <;> (with_reducible and_intros) <;> first | assumption | rfl | omega | (unfold maxLen; omega)) (by first | assumption | omega | (simp only [go_sem, hb2]) <;> (with_reducible and_intros) <;> first | assumption | rfl | omega | (unfold maxLen; omega)) (.inr ⟨_, _, rfl, rfl⟩) (.inl ⟨rfl, rfl⟩) ?_
    refine zT [(0, .own 1000), (5, .int .i64 b1.2), (38, .vw 1000 1 b1.2.toNat ((b1.1.length : Int) - b1.2).toNat)] [(1000, .arr 3 (.int .i64) b1.1), (1001, .box 71 (.int .i64 c0.1.1 :: (.sl (.pair (.int .i64) (.pair (.int .i64) (.int .i64))) c0.1.2 :: (cellsX T69 c0.2))))] gt ?_
    obtain ⟨c5, h⟩ := ck_some.1 h
    obtain ⟨c6, h⟩ := ck_some.1 h
    refine AO.clearView tab_ok (by decide) rfl rfl rfl rfl rfl tab_27 rfl tab_3 rfl rfl rfl (by first | assumption | omega | (simp only [go_sem, hb2]) <;> (with_reducible and_intros) <;> first | assumption | rfl | omega | (unfold maxLen; omega)) (by first | assumption | omega | (simp only [go_sem, hb2]) <;> (with_reducible and_intros) <;> first | assumption | rfl | omega | (unfold maxLen; omega)) ?_
    refine zT [(0, .own 1000), (5, .int .i64 b1.2)] [(1000, .arr 3 (.int .i64) (((b1.1.take b1.2.toNat) ++ (List.replicate ((b1.1.length : Int) - b1.2).toNat (0 : Int))) ++ (b1.1.drop (b1.2.toNat + ((b1.1.length : Int) - b1.2).toNat)))), (1001, .box 71 (.int .i64 c0.1.1 :: (.sl (.pair (.int .i64) (.pair (.int .i64) (.int .i64))) c0.1.2 :: (cellsX T69 c0.2))))] gt ?_
    refine zB [(0, .own 1000), (5, .int .i64 b1.2)] [(1000, .arr 3 (.int .i64) (((b1.1.take b1.2.toNat) ++ (List.replicate ((b1.1.length : Int) - b1.2).toNat (0 : Int))) ++ (b1.1.drop (b1.2.toNat + ((b1.1.length : Int) - b1.2).toNat)))), (1001, .box 71 (.int .i64 c0.1.1 :: (.sl (.pair (.int .i64) (.pair (.int .i64) (.int .i64))) c0.1.2 :: (cellsX T69 c0.2))))] ?_
    refine zo ?_
    refine zS 2 [(39, .own 1000), (40, .int .i64 b1.2)] [(1000, .arr 3 (.int .i64) (((b1.1.take b1.2.toNat) ++ (List.replicate ((b1.1.length : Int) - b1.2).toNat (0 : Int))) ++ (b1.1.drop (b1.2.toNat + ((b1.1.length : Int) - b1.2).toNat)))), (1001, .box 71 (.int .i64 c0.1.1 :: (.sl (.pair (.int .i64) (.pair (.int .i64) (.int .i64))) c0.1.2 :: (cellsX T69 c0.2))))] ?_
    obtain ⟨c7, h⟩ := ck_some.1 h
    obtain ⟨c8, h⟩ := ck_some.1 h
    refine AO.sliceOwn tab_ok (by decide) (by decide) rfl rfl tab_27 rfl tab_3 rfl rfl rfl rfl (by first | assumption | omega | (simp only [go_sem, hb2]) <;> (with_reducible and_intros) <;> first | assumption | rfl | omega | (unfold maxLen; omega)) (by first | assumption | omega | (simp only [go_sem, hb2]) <;> (with_reducible and_intros) <;> first | assumption | rfl | omega | (unfold maxLen; omega)) ?_
    refine zT [(41, .own 41)] [(41, .arr 3 (.int .i64) ((((b1.1.take b1.2.toNat) ++ (List.replicate ((b1.1.length : Int) - b1.2).toNat (0 : Int))) ++ (b1.1.drop (b1.2.toNat + ((b1.1.length : Int) - b1.2).toNat))).take b1.2.toNat)), (1001, .box 71 (.int .i64 c0.1.1 :: (.sl (.pair (.int .i64) (.pair (.int .i64) (.int .i64))) c0.1.2 :: (cellsX T69 c0.2))))] gt ?_
    refine zB [(4, .own 41)] [(41, .arr 3 (.int .i64) ((((b1.1.take b1.2.toNat) ++ (List.replicate ((b1.1.length : Int) - b1.2).toNat (0 : Int))) ++ (b1.1.drop (b1.2.toNat + ((b1.1.length : Int) - b1.2).toNat))).take b1.2.toNat)), (1001, .box 71 (.int .i64 c0.1.1 :: (.sl (.pair (.int .i64) (.pair (.int .i64) (.int .i64))) c0.1.2 :: (cellsX T69 c0.2))))] ?_
    refine AW.ret ?_
    obtain rfl := Option.some.inj h
    exact zR [] [] [(2000, 41)]
  ·refine AW.seq ?_
   refine zo ?_
   obtain ⟨c9, h⟩ := ck_some.1 h
   refine zB [(0, .own 1000), (1, .fn (.func 69) [] [.bp 1001 0]), (5, .int .i64 v0), (6, .int .i64 (v0 + 1))] [(1000, .arr 3 (.int .i64) s), (1001, .box 71 (.int .i64 c0.1.1 :: (.sl (.pair (.int .i64) (.pair (.int .i64) (.int .i64))) c0.1.2 :: (cellsX T69 c0.2))))] ?_
   refine AW.block ?_
   obtain ⟨rv14, hw10, ho11⟩ := Option.bind_eq_some_iff.1 h
   refine AW.loopO (slices_DeleteFunc_b1 c0) (fun st1 => ⟨fr [(0, .own 1000), (1, .fn (.func 69) [] [.bp 1001 0]), (5, .int .i64 st1.2.1), (6, .int .i64 st1.2.2)], hpGet [(1000, .arr 3 (.int .i64) st1.1), (1001, .box 71 (.int .i64 c0.1.1 :: (.sl (.pair (.int .i64) (.pair (.int .i64) (.int .i64))) c0.1.2 :: (cellsX T69 c0.2))))], gt⟩) (s, v0, (v0 + 1)) hw10 (zL [] [] []) ?_
   as_aux_lemma =>
    intro st1 x13 h hd12
    unfold slices_DeleteFunc_b1 at h
    refine AW.seq ?_
    refine zo ?_
    refine zB [(0, .own 1000), (1, .fn (.func 69) [] [.bp 1001 0]), (5, .int .i64 st1.2.1), (6, .int .i64 st1.2.2), (19, .bool (decide (st1.2.2 < (st1.1.length : Int))))] [(1000, .arr 3 (.int .i64) st1.1), (1001, .box 71 (.int .i64 c0.1.1 :: (.sl (.pair (.int .i64) (.pair (.int .i64) (.int .i64))) c0.1.2 :: (cellsX T69 c0.2))))] ?_
    refine zQ h (fun hb15 h => ?_) (fun hb15 h => ?_)
    ·refine zk ?_
     refine AW.seq ?_
     refine AW.block ?_
     refine zo ?_
     obtain ⟨c16, h⟩ := ck_some.1 h
     obtain ⟨c17, h⟩ := ck_some.1 h
     refine zB [(0, .own 1000), (1, .fn (.func 69) [] [.bp 1001 0]), (5, .int .i64 st1.2.1), (6, .int .i64 st1.2.2), (7, .int .i64 (st1.1.getD st1.2.2.toNat 0))] [(1000, .arr 3 (.int .i64) st1.1), (1001, .box 71 (.int .i64 c0.1.1 :: (.sl (.pair (.int .i64) (.pair (.int .i64) (.int .i64))) c0.1.2 :: (cellsX T69 c0.2))))] ?_
     refine zo ?_
     refine zS 2 [(0, .own 1000), (1, .fn (.func 69) [] [.bp 1001 0]), (5, .int .i64 st1.2.1), (6, .int .i64 st1.2.2), (7, .int .i64 (st1.1.getD st1.2.2.toNat 0)), (26, .fn (.func 69) [] [.bp 1001 0]), (27, .int .i64 (st1.1.getD st1.2.2.toNat 0))] [(1000, .arr 3 (.int .i64) st1.1), (1001, .box 71 (.int .i64 c0.1.1 :: (.sl (.pair (.int .i64) (.pair (.int .i64) (.int .i64))) c0.1.2 :: (cellsX T69 c0.2))))] ?_
     obtain ⟨v0_2, hv18, h⟩ := Option.bind_eq_some_iff.1 h
     refine zC [] [(1000, 1001)] (hc_refine_Stuck_1_2 (st1.1.getD st1.2.2.toNat 0) c0 hv18) [(0, .own 1000), (1, .fn (.func 69) [] [.bp 1001 0]), (5, .int .i64 st1.2.1), (6, .int .i64 st1.2.2), (7, .int .i64 (st1.1.getD st1.2.2.toNat 0)), (28, .bool v0_2)] [(1000, .arr 3 (.int .i64) st1.1), (1001, .box 71 (.int .i64 c0.1.1 :: (.sl (.pair (.int .i64) (.pair (.int .i64) (.int .i64))) c0.1.2 :: (cellsX T69 c0.2))))] ?_
     refine zB [(0, .own 1000), (1, .fn (.func 69) [] [.bp 1001 0]), (5, .int .i64 st1.2.1), (6, .int .i64 st1.2.2), (7, .int .i64 (st1.1.getD st1.2.2.toNat 0)), (29, .bool (!v0_2))] [(1000, .arr 3 (.int .i64) st1.1), (1001, .box 71 (.int .i64 c0.1.1 :: (.sl (.pair (.int .i64) (.pair (.int .i64) (.int .i64))) c0.1.2 :: (cellsX T69 c0.2))))] ?_
     refine zQ h (fun hb19 h => ?_) (fun hb19 h => ?_)
     ·refine zo ?_
      obtain ⟨c20, h⟩ := ck_some.1 h
      obtain ⟨c21, h⟩ := ck_some.1 h
      refine zB [(0, .own 1000), (1, .fn (.func 69) [] [.bp 1001 0]), (5, .int .i64 st1.2.1), (6, .int .i64 st1.2.2)] [(1000, .arr 3 (.int .i64) (st1.1.set st1.2.1.toNat (st1.1.getD st1.2.2.toNat 0))), (1001, .box 71 (.int .i64 c0.1.1 :: (.sl (.pair (.int .i64) (.pair (.int .i64) (.int .i64))) c0.1.2 :: (cellsX T69 c0.2))))] ?_
      refine AW.ops ?_
      obtain ⟨c22, h⟩ := ck_some.1 h
      refine zA [(0, .own 1000), (1, .fn (.func 69) [] [.bp 1001 0]), (5, .int .i64 (st1.2.1 + 1)), (6, .int .i64 st1.2.2)] [(1000, .arr 3 (.int .i64) (st1.1.set st1.2.1.toNat (st1.1.getD st1.2.2.toNat 0))), (1001, .box 71 (.int .i64 c0.1.1 :: (.sl (.pair (.int .i64) (.pair (.int .i64) (.int .i64))) c0.1.2 :: (cellsX T69 c0.2))))] ?_
      refine ablock_n ?_
      refine athen_n ?_
      refine AW.ops ?_
      obtain ⟨c23, h⟩ := ck_some.1 h
      refine zA [(0, .own 1000), (1, .fn (.func 69) [] [.bp 1001 0]), (5, .int .i64 (st1.2.1 + 1)), (6, .int .i64 (st1.2.2 + 1))] [(1000, .arr 3 (.int .i64) (st1.1.set st1.2.1.toNat (st1.1.getD st1.2.2.toNat 0))), (1001, .box 71 (.int .i64 c0.1.1 :: (.sl (.pair (.int .i64) (.pair (.int .i64) (.int .i64))) c0.1.2 :: (cellsX T69 c0.2))))] ?_
      obtain rfl := Option.some.inj h
      exact ⟨_, rfl, zL [] [] []⟩
     ·refine zm ?_
      refine athen_n ?_
      refine AW.ops ?_
      obtain ⟨c24, h⟩ := ck_some.1 h
      refine zA [(0, .own 1000), (1, .fn (.func 69) [] [.bp 1001 0]), (5, .int .i64 st1.2.1), (6, .int .i64 (st1.2.2 + 1))] [(1000, .arr 3 (.int .i64) st1.1), (1001, .box 71 (.int .i64 c0.1.1 :: (.sl (.pair (.int .i64) (.pair (.int .i64) (.int .i64))) c0.1.2 :: (cellsX T69 c0.2))))] ?_
      obtain rfl := Option.some.inj h
      exact ⟨_, rfl, zL [] [] []⟩
    ·refine AW.exit ?_
     refine athen_e ?_
     obtain rfl := Option.some.inj h
     rw [← hd12 _ rfl] at ho11
     have h := ho11
     refine athen_e ?_
     refine ablock_s ?_
     refine athen_n ?_
     exact AW.weaken (zL [] [] []) (hk_slices_DeleteFunc_k1 _ h)

theorem hc_refine_Stuck (s : Int × (List (Int × Int × Int))) {r : (List Int) × Int} (h : refine_Stuck s = some r) : HC Try.prog 25 [] [.agg [.int .i64 s.1, .sl (.pair (.int .i64) (.pair (.int .i64) (.int .i64))) s.2]] [(2000, .arr 3 (.int .i64) r.1)] (.tup [.own 2000, .int .i64 r.2]) := by
 unfold refine_Stuck at h
 refine zH Try.func25 [.tmp 2, .tmp 3] 21 ?_
 refine zo ?_
 refine zB [(1, .bp 1 0)] [(1, .box 24 [.int .i64 s.1, .sl (.pair (.int .i64) (.pair (.int .i64) (.int .i64))) s.2])] ?_
 refine zo ?_
 refine zS 1 [(8, .agg [.int .i64 s.1, .sl (.pair (.int .i64) (.pair (.int .i64) (.int .i64))) s.2])] [] ?_
 obtain ⟨v0, hv1, h⟩ := Option.bind_eq_some_iff.1 h
 refine zC [] [] (hc_refine_frameOf s hv1) [(9, .tup [.agg (.int .i64 v0.1 :: (.sl (.pair (.int .i64) (.pair (.int .i64) (.int .i64))) v0.2.1 :: (cellsX T69 v0.2.2.1))), .int .i64 v0.2.2.2])] [] ?_
 refine zS 5 [(4, .bp 4 0), (11, .int .i64 v0.2.2.2)] [(4, .box 71 (.int .i64 v0.1 :: (.sl (.pair (.int .i64) (.pair (.int .i64) (.int .i64))) v0.2.1 :: (cellsX T69 v0.2.2.1))))] ?_
 refine zB [(4, .bp 4 0), (5, .int .i64 v0.2.2.2)] [(4, .box 71 (.int .i64 v0.1 :: (.sl (.pair (.int .i64) (.pair (.int .i64) (.int .i64))) v0.2.1 :: (cellsX T69 v0.2.2.1))))] ?_
 refine AW.seq ?_
 refine zo ?_
 refine zB [(4, .bp 4 0), (5, .int .i64 v0.2.2.2), (13, .bool (!(decide (v0.2.2.2 = 0))))] [(4, .box 71 (.int .i64 v0.1 :: (.sl (.pair (.int .i64) (.pair (.int .i64) (.int .i64))) v0.2.1 :: (cellsX T69 v0.2.2.1))))] ?_
 refine zQ h (fun hb2 h => ?_) (fun hb2 h => ?_)
 ·refine zo ?_
  refine zB [(2, .cv (.slice none 0 0)), (3, .int .i64 v0.2.2.2)] [] ?_
  refine zr ?_
  obtain rfl := Option.some.inj h
  exact zR [] [2000] []
 ·refine zk ?_
  refine zo ?_
  refine zB [(4, .bp 4 0), (6, .fn (.func 69) [] [.bp 4 0])] [(4, .box 71 (.int .i64 v0.1 :: (.sl (.pair (.int .i64) (.pair (.int .i64) (.int .i64))) v0.2.1 :: (cellsX T69 v0.2.2.1))))] ?_
  refine zo ?_
  refine zS 1 [(6, .fn (.func 69) [] [.bp 4 0]), (16, .agg (.int .i64 v0.1 :: (.sl (.pair (.int .i64) (.pair (.int .i64) (.int .i64))) v0.2.1 :: (cellsX T69 v0.2.2.1))))] [(4, .box 71 (.int .i64 v0.1 :: (.sl (.pair (.int .i64) (.pair (.int .i64) (.int .i64))) v0.2.1 :: (cellsX T69 v0.2.2.1))))] ?_
  obtain ⟨v0_2, hv3, h⟩ := Option.bind_eq_some_iff.1 h
  refine zC [] [] (hc_refine_frame_reached ((v0.1, v0.2.1), v0.2.2.1) hv3) [(6, .fn (.func 69) [] [.bp 4 0]), (17, .int .u8 v0_2)] [(4, .box 71 (.int .i64 v0.1 :: (.sl (.pair (.int .i64) (.pair (.int .i64) (.int .i64))) v0.2.1 :: (cellsX T69 v0.2.2.1))))] ?_
  obtain ⟨v0_3, hv4, h⟩ := Option.bind_eq_some_iff.1 h
  refine zC [] [] (hc_refine_set_states v0_2 hv4) [(6, .fn (.func 69) [] [.bp 4 0]), (18, .own 28000)] [(4, .box 71 (.int .i64 v0.1 :: (.sl (.pair (.int .i64) (.pair (.int .i64) (.int .i64))) v0.2.1 :: (cellsX T69 v0.2.2.1)))), (28000, .arr 3 (.int .i64) v0_3)] ?_
  refine zS 1 [(18, .own 28000), (19, .fn (.func 69) [] [.bp 4 0])] [(4, .box 71 (.int .i64 v0.1 :: (.sl (.pair (.int .i64) (.pair (.int .i64) (.int .i64))) v0.2.1 :: (cellsX T69 v0.2.2.1)))), (28000, .arr 3 (.int .i64) v0_3)] ?_
  obtain ⟨v0_4, hv5, h⟩ := Option.bind_eq_some_iff.1 h
  refine zC [] [(1000, 28000), (1001, 4)] (hc_slices_DeleteFunc v0_3 ((v0.1, v0.2.1), v0.2.2.1) hv5) [(20, .own 30000)] [(30000, .arr 3 (.int .i64) v0_4)] ?_
  refine zB [(2, .own 30000), (3, .int .i64 0)] [(30000, .arr 3 (.int .i64) v0_4)] ?_
  refine AW.ret ?_
  obtain rfl := Option.some.inj h
  exact zR [] [] [(2000, 30000)]

end Go.Proofs.Ytifleoceebaooaa
