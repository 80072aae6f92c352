/-
  Made by wip/tool/dc.py out of the print of the program: contracts.
-/
import Derived.Test.YteclokkdgmacpaaGrp
import Derived.Test.YteclokkdgmacpaaSh7
import Derived.Test.YteclokkdgmacpaaGfc6
import Derived.Test.YteclokkdgmacpaaGfc7
import Derived.Test.YteclokkdgmacpaaGfc8
namespace Go.Proofs.Yteclokkdgmacpaa
open Go.RowKit

set_option linter.unusedSimpArgs false
set_option linter.unusedVariables false
set_option linter.constructorNameAsVariable false

set_option maxRecDepth 100000
set_option maxHeartbeats 2000000

theorem hc_progress_Everybody (g : Int × (List (Int × Int × Int × Bool))) {r : Bool × Int} (h : progress_Everybody g = some r) : HC Try.prog 38 [] [.agg [.int .i64 g.1, .sl (.pair (.int .i64) (.pair (.int .i64) (.pair (.int .i64) .bool))) g.2]] [] (.tup [.bool r.1, .int .i64 r.2]) := by
 unfold progress_Everybody at h
 refine zH Try.func38 [.tmp 2, .tmp 3] 24 ?_
 refine zo ?_
 refine zB [(1, .bp 1 0)] [(1, .box 24 [.int .i64 g.1, .sl (.pair (.int .i64) (.pair (.int .i64) (.pair (.int .i64) .bool))) g.2])] ?_
 refine AW.have1 (fun _ : Unit => progress_Everybody_k1 = some r) (fun _ => ⟨fr [], hpGet [], gt⟩) (fun _ h => ?_) (fun hk_progress_Everybody_k1 => ?_)
 ·as_aux_lemma =>
   unfold progress_Everybody_k1 at h
   refine zo ?_
   refine zB [(2, .bool true), (3, .int .i64 0)] [] ?_
   refine AW.ret ?_
   obtain rfl := Option.some.inj h
   exact zR [] [] []
 ·refine AW.seq ?_
  refine zo ?_
  refine zB [(1, .bp 1 0), (7, .int .i64 0)] [(1, .box 24 [.int .i64 g.1, .sl (.pair (.int .i64) (.pair (.int .i64) (.pair (.int .i64) .bool))) g.2])] ?_
  refine AW.block ?_
  obtain ⟨rv5, hw1, ho2⟩ := Option.bind_eq_some_iff.1 h
  refine AW.loopO (progress_Everybody_b1 g) (fun st1 => ⟨fr [(1, .bp 1 0), (7, .int .i64 st1)], hpGet [(1, .box 24 [.int .i64 g.1, .sl (.pair (.int .i64) (.pair (.int .i64) (.pair (.int .i64) .bool))) g.2])], gt⟩) 0 hw1 (zL [] [] []) ?_
  as_aux_lemma =>
   intro st1 x4 h hd3
   unfold progress_Everybody_b1 at h
   refine zo ?_
   refine zB [(1, .bp 1 0), (7, .int .i64 st1), (8, .bool (decide (st1 < 3)))] [(1, .box 24 [.int .i64 g.1, .sl (.pair (.int .i64) (.pair (.int .i64) (.pair (.int .i64) .bool))) g.2])] ?_
   refine AW.seq ?_
   refine zQ h (fun hb6 h => ?_) (fun hb6 h => ?_)
   ·refine zk ?_
    refine AW.seq ?_
    refine AW.block ?_
    refine zo ?_
    refine zB [(1, .bp 1 0), (4, .int .i64 st1), (7, .int .i64 st1)] [(1, .box 24 [.int .i64 g.1, .sl (.pair (.int .i64) (.pair (.int .i64) (.pair (.int .i64) .bool))) g.2])] ?_
    refine zo ?_
    refine zS 2 [(1, .bp 1 0), (7, .int .i64 st1), (11, .agg [.int .i64 g.1, .sl (.pair (.int .i64) (.pair (.int .i64) (.pair (.int .i64) .bool))) g.2]), (12, .int .i64 st1)] [(1, .box 24 [.int .i64 g.1, .sl (.pair (.int .i64) (.pair (.int .i64) (.pair (.int .i64) .bool))) g.2])] ?_
    obtain ⟨v0, hv7, h⟩ := Option.bind_eq_some_iff.1 h
    refine zC [] [] (hc_progress_Holds g 1 st1 hv7) [(1, .bp 1 0), (7, .int .i64 st1), (13, .tup [.bool v0.1, .int .i64 v0.2])] [(1, .box 24 [.int .i64 g.1, .sl (.pair (.int .i64) (.pair (.int .i64) (.pair (.int .i64) .bool))) g.2])] ?_
    refine zB [(1, .bp 1 0), (5, .bool v0.1), (6, .int .i64 v0.2), (7, .int .i64 st1)] [(1, .box 24 [.int .i64 g.1, .sl (.pair (.int .i64) (.pair (.int .i64) (.pair (.int .i64) .bool))) g.2])] ?_
    refine zo ?_
    refine zS 3 [(1, .bp 1 0), (5, .bool v0.1), (6, .int .i64 v0.2), (7, .int .i64 st1), (18, .bool (!(decide (v0.2 = 0))))] [(1, .box 24 [.int .i64 g.1, .sl (.pair (.int .i64) (.pair (.int .i64) (.pair (.int .i64) .bool))) g.2])] ?_
    rcases zI h with ⟨hb8, h⟩ | ⟨hb8, h⟩
    ·refine zB [(1, .bp 1 0), (6, .int .i64 v0.2), (7, .int .i64 st1), (21, .bool true)] [(1, .box 24 [.int .i64 g.1, .sl (.pair (.int .i64) (.pair (.int .i64) (.pair (.int .i64) .bool))) g.2])] ?_
     refine AW.cond (b := true) rfl (fun _ => ?_) (fun hb9 => by cases hb9)
     refine zo ?_
     refine zB [(2, .bool false), (3, .int .i64 v0.2)] [] ?_
     refine AW.ret ?_
     refine ablock_r ?_
     refine athen_r ?_
     obtain rfl := Option.some.inj h
     rw [← hd3 _ rfl] at ho2
     have h := ho2
     try simp only at h
     refine athen_r ?_
     refine ablock_r ?_
     refine athen_r ?_
     obtain rfl := Option.some.inj h
     exact zR [] [] []
    ·refine zB [(1, .bp 1 0), (6, .int .i64 v0.2), (7, .int .i64 st1), (21, .bool (!v0.1))] [(1, .box 24 [.int .i64 g.1, .sl (.pair (.int .i64) (.pair (.int .i64) (.pair (.int .i64) .bool))) g.2])] ?_
     refine zQ h (fun hb10 h => ?_) (fun hb10 h => ?_)
     ·refine zo ?_
      refine zB [(2, .bool false), (3, .int .i64 v0.2)] [] ?_
      refine AW.ret ?_
      refine ablock_r ?_
      refine athen_r ?_
      obtain rfl := Option.some.inj h
      rw [← hd3 _ rfl] at ho2
      have h := ho2
      try simp only at h
      refine athen_r ?_
      refine ablock_r ?_
      refine athen_r ?_
      obtain rfl := Option.some.inj h
      exact zR [] [] []
     ·refine zm ?_
      refine athen_n ?_
      refine AW.ops ?_
      obtain ⟨c11, h⟩ := ck_some.1 h
      refine zA [(1, .bp 1 0), (7, .int .i64 (st1 + 1))] [(1, .box 24 [.int .i64 g.1, .sl (.pair (.int .i64) (.pair (.int .i64) (.pair (.int .i64) .bool))) g.2])] ?_
      obtain rfl := Option.some.inj h
      exact ⟨_, rfl, zL [] [] []⟩
   ·refine AW.exit ?_
    refine athen_e ?_
    obtain rfl := Option.some.inj h
    rw [← hd3 _ rfl] at ho2
    have h := ho2
    try simp only at h
    refine athen_e ?_
    refine ablock_s ?_
    refine athen_n ?_
    exact AW.weaken (zL [] [] []) (hk_progress_Everybody_k1 () h)

theorem hc_linealref07_Everybody (g : Int × (List (Int × Int × Int × Bool))) {r : Bool × Int} (h : linealref07_Everybody g = some r) : HC Try.prog 39 [] [.agg [.int .i64 g.1, .sl (.pair (.int .i64) (.pair (.int .i64) (.pair (.int .i64) .bool))) g.2]] [] (.tup [.bool r.1, .int .i64 r.2]) := by
 unfold linealref07_Everybody at h
 refine zH Try.func39 [.tmp 2, .tmp 3] 22 ?_
 refine zo ?_
 refine zB [(1, .bp 1 0)] [(1, .box 24 [.int .i64 g.1, .sl (.pair (.int .i64) (.pair (.int .i64) (.pair (.int .i64) .bool))) g.2])] ?_
 refine AW.seq ?_
 refine zo ?_
 refine zS 1 [(1, .bp 1 0), (7, .agg [.int .i64 g.1, .sl (.pair (.int .i64) (.pair (.int .i64) (.pair (.int .i64) .bool))) g.2])] [(1, .box 24 [.int .i64 g.1, .sl (.pair (.int .i64) (.pair (.int .i64) (.pair (.int .i64) .bool))) g.2])] ?_
 obtain ⟨v0, hv1, h⟩ := Option.bind_eq_some_iff.1 h
 refine zC [] [] (hc_linealref07_Valid g hv1) [(1, .bp 1 0), (8, .bool v0)] [(1, .box 24 [.int .i64 g.1, .sl (.pair (.int .i64) (.pair (.int .i64) (.pair (.int .i64) .bool))) g.2])] ?_
 refine zB [(1, .bp 1 0), (9, .bool (!v0))] [(1, .box 24 [.int .i64 g.1, .sl (.pair (.int .i64) (.pair (.int .i64) (.pair (.int .i64) .bool))) g.2])] ?_
 refine zQ h (fun hb2 h => ?_) (fun hb2 h => ?_)
 ·refine zo ?_
  refine zB [(2, .bool false), (3, .int .i64 70)] [] ?_
  refine zr ?_
  obtain rfl := Option.some.inj h
  exact zR [] [] []
 ·refine zk ?_
  refine AW.have1 (fun _ : Unit => linealref07_Everybody_k1 = some r) (fun _ => ⟨fr [], hpGet [], gt⟩) (fun _ h => ?_) (fun hk_linealref07_Everybody_k1 => ?_)
  ·as_aux_lemma =>
    unfold linealref07_Everybody_k1 at h
    refine zo ?_
    refine zB [(2, .bool true), (3, .int .i64 0)] [] ?_
    refine AW.ret ?_
    obtain rfl := Option.some.inj h
    exact zR [] [] []
  ·refine AW.seq ?_
   refine zo ?_
   refine zB [(1, .bp 1 0), (10, .int .i64 0)] [(1, .box 24 [.int .i64 g.1, .sl (.pair (.int .i64) (.pair (.int .i64) (.pair (.int .i64) .bool))) g.2])] ?_
   refine AW.block ?_
   obtain ⟨rv7, hw3, ho4⟩ := Option.bind_eq_some_iff.1 h
   refine AW.loopO (linealref07_Everybody_b1 g) (fun st1 => ⟨fr [(1, .bp 1 0), (10, .int .i64 st1)], hpGet [(1, .box 24 [.int .i64 g.1, .sl (.pair (.int .i64) (.pair (.int .i64) (.pair (.int .i64) .bool))) g.2])], gt⟩) 0 hw3 (zL [] [] []) ?_
   as_aux_lemma =>
    intro st1 x6 h hd5
    unfold linealref07_Everybody_b1 at h
    refine zo ?_
    refine zB [(1, .bp 1 0), (10, .int .i64 st1), (11, .bool (decide (st1 < 3)))] [(1, .box 24 [.int .i64 g.1, .sl (.pair (.int .i64) (.pair (.int .i64) (.pair (.int .i64) .bool))) g.2])] ?_
    refine AW.seq ?_
    refine zQ h (fun hb8 h => ?_) (fun hb8 h => ?_)
    ·refine zk ?_
     refine AW.seq ?_
     refine AW.block ?_
     refine zo ?_
     refine zB [(1, .bp 1 0), (4, .int .i64 st1), (10, .int .i64 st1)] [(1, .box 24 [.int .i64 g.1, .sl (.pair (.int .i64) (.pair (.int .i64) (.pair (.int .i64) .bool))) g.2])] ?_
     refine zo ?_
     refine zS 2 [(1, .bp 1 0), (10, .int .i64 st1), (14, .agg [.int .i64 g.1, .sl (.pair (.int .i64) (.pair (.int .i64) (.pair (.int .i64) .bool))) g.2]), (15, .int .i64 st1)] [(1, .box 24 [.int .i64 g.1, .sl (.pair (.int .i64) (.pair (.int .i64) (.pair (.int .i64) .bool))) g.2])] ?_
     obtain ⟨v0_2, hv9, h⟩ := Option.bind_eq_some_iff.1 h
     refine zC [] [] (hc_linealref07_ranks g 1 st1 hv9) [(1, .bp 1 0), (10, .int .i64 st1), (16, .tup [.own 26000, .bool v0_2.2])] [(1, .box 24 [.int .i64 g.1, .sl (.pair (.int .i64) (.pair (.int .i64) (.pair (.int .i64) .bool))) g.2]), (26000, .arr 3 (.int .i64) v0_2.1)] ?_
     refine zB [(1, .bp 1 0), (6, .bool v0_2.2), (10, .int .i64 st1)] [(1, .box 24 [.int .i64 g.1, .sl (.pair (.int .i64) (.pair (.int .i64) (.pair (.int .i64) .bool))) g.2])] ?_
     refine zo ?_
     refine zB [(1, .bp 1 0), (10, .int .i64 st1), (20, .bool (!v0_2.2))] [(1, .box 24 [.int .i64 g.1, .sl (.pair (.int .i64) (.pair (.int .i64) (.pair (.int .i64) .bool))) g.2])] ?_
     refine zQ h (fun hb10 h => ?_) (fun hb10 h => ?_)
     ·refine zo ?_
      refine zB [(2, .bool false), (3, .int .i64 0)] [] ?_
      refine AW.ret ?_
      refine ablock_r ?_
      refine athen_r ?_
      obtain rfl := Option.some.inj h
      rw [← hd5 _ rfl] at ho4
      have h := ho4
      try simp only at h
      refine athen_r ?_
      refine ablock_r ?_
      refine athen_r ?_
      obtain rfl := Option.some.inj h
      exact zR [] [] []
     ·refine zm ?_
      refine athen_n ?_
      refine AW.ops ?_
      obtain ⟨c11, h⟩ := ck_some.1 h
      refine zA [(1, .bp 1 0), (10, .int .i64 (st1 + 1))] [(1, .box 24 [.int .i64 g.1, .sl (.pair (.int .i64) (.pair (.int .i64) (.pair (.int .i64) .bool))) g.2])] ?_
      obtain rfl := Option.some.inj h
      exact ⟨_, rfl, zL [] [] []⟩
    ·refine AW.exit ?_
     refine athen_e ?_
     obtain rfl := Option.some.inj h
     rw [← hd5 _ rfl] at ho4
     have h := ho4
     try simp only at h
     refine athen_e ?_
     refine ablock_s ?_
     refine athen_n ?_
     exact AW.weaken (zL [] [] []) (hk_linealref07_Everybody_k1 () h)

theorem hc_slices_Max (x0 : List Int) {r : Int} (h : slices_Max x0 = some r) : HC Try.prog 106 [] [.sl (.int .i64) x0] [] (.int .i64 r) := by
 unfold slices_Max at h
 refine zH Try.func106 [.tmp 2] 25 ?_
 refine zo ?_
 refine zB [(0, .sl (.int .i64) x0)] [] ?_
 refine AW.seq ?_
 refine zo ?_
 refine zB [(0, .sl (.int .i64) x0), (7, .bool (decide ((x0.length : Int) < 1)))] [] ?_
 refine zQ h (fun hb1 h => ?_) (fun hb1 h => ?_)
 ·refine AW.ops ?_
  cases h
 ·refine zk ?_
  refine zo ?_
  obtain ⟨c2, h⟩ := ck_some.1 h
  refine zB [(0, .sl (.int .i64) x0), (3, .int .i64 (x0.getD 0 0))] [] ?_
  refine AW.have1 (fun b1 : Int => slices_Max_k1 b1 = some r) (fun b1 => ⟨fr [(3, .int .i64 b1)], hpGet [], gt⟩) (fun b1 h => ?_) (fun hk_slices_Max_k1 => ?_)
  ·as_aux_lemma =>
    unfold slices_Max_k1 at h
    refine zo ?_
    refine zB [(2, .int .i64 b1)] [] ?_
    refine AW.ret ?_
    obtain rfl := Option.some.inj h
    exact zR [] [] []
  ·refine AW.seq ?_
   refine zo ?_
   refine zB [(0, .sl (.int .i64) x0), (3, .int .i64 (x0.getD 0 0)), (4, .int .i64 1)] [] ?_
   refine AW.block ?_
   obtain ⟨rv7, hw3, ho4⟩ := Option.bind_eq_some_iff.1 h
   refine AW.loopO (slices_Max_b1 x0) (fun st1 => ⟨fr [(0, .sl (.int .i64) x0), (3, .int .i64 st1.1), (4, .int .i64 st1.2)], hpGet [], gt⟩) ((x0.getD 0 0), 1) hw3 (zL [] [] []) ?_
   as_aux_lemma =>
    intro st1 x6 h hd5
    unfold slices_Max_b1 at h
    refine AW.seq ?_
    refine zo ?_
    refine zB [(0, .sl (.int .i64) x0), (3, .int .i64 st1.1), (4, .int .i64 st1.2), (15, .bool (decide (st1.2 < (x0.length : Int))))] [] ?_
    refine zQ h (fun hb8 h => ?_) (fun hb8 h => ?_)
    ·refine zk ?_
     refine AW.seq ?_
     refine AW.block ?_
     refine AW.ops ?_
     obtain ⟨c9, h⟩ := ck_some.1 h
     obtain ⟨c10, h⟩ := ck_some.1 h
     refine zS 5 [(0, .sl (.int .i64) x0), (4, .int .i64 st1.2), (18, .int .i64 st1.1), (22, .int .i64 (x0.getD st1.2.toNat 0))] [] ?_
     refine zA [(0, .sl (.int .i64) x0), (3, .int .i64 (max st1.1 (x0.getD st1.2.toNat 0))), (4, .int .i64 st1.2)] [] ?_
     refine ablock_n ?_
     refine athen_n ?_
     refine AW.ops ?_
     obtain ⟨c11, h⟩ := ck_some.1 h
     refine zA [(0, .sl (.int .i64) x0), (3, .int .i64 (max st1.1 (x0.getD st1.2.toNat 0))), (4, .int .i64 (st1.2 + 1))] [] ?_
     obtain rfl := Option.some.inj h
     exact ⟨_, rfl, zL [] [] []⟩
    ·refine AW.exit ?_
     refine athen_e ?_
     obtain rfl := Option.some.inj h
     rw [← hd5 _ rfl] at ho4
     have h := ho4
     refine athen_e ?_
     refine ablock_s ?_
     refine athen_n ?_
     exact AW.weaken (zL [] [] []) (hk_slices_Max_k1 _ h)

theorem hc_progress_greatest (g : Int × (List (Int × Int × Int × Bool))) (claim : Int) (thread : Int) {r : Int × Int} (h : progress_greatest g claim thread = some r) : HC Try.prog 80 [] [.agg [.int .i64 g.1, .sl (.pair (.int .i64) (.pair (.int .i64) (.pair (.int .i64) .bool))) g.2], .int .i64 claim, .int .i64 thread] [] (.tup [.int .i64 r.1, .int .i64 r.2]) := by
 unfold progress_greatest at h
 refine zH Try.func80 [.tmp 6, .tmp 7] 22 ?_
 refine zo ?_
 refine zB [(1, .int .i64 claim), (2, .int .i64 thread), (3, .bp 3 0)] [(3, .box 24 [.int .i64 g.1, .sl (.pair (.int .i64) (.pair (.int .i64) (.pair (.int .i64) .bool))) g.2])] ?_
 refine zo ?_
 refine zS 3 [(11, .agg [.int .i64 g.1, .sl (.pair (.int .i64) (.pair (.int .i64) (.pair (.int .i64) .bool))) g.2]), (12, .int .i64 claim), (13, .int .i64 thread)] [] ?_
 obtain ⟨v0, hv1, h⟩ := Option.bind_eq_some_iff.1 h
 refine zC [] [] (hc_progress_Ranks g claim thread hv1) [(14, .tup [.own 24000, .int .i64 v0.2])] [(24000, .arr 3 (.int .i64) v0.1)] ?_
 refine zB [(8, .own 24000), (9, .int .i64 v0.2)] [(24000, .arr 3 (.int .i64) v0.1)] ?_
 refine AW.seq ?_
 refine zo ?_
 refine zB [(8, .own 24000), (9, .int .i64 v0.2), (18, .bool (!(decide (v0.2 = 0))))] [(24000, .arr 3 (.int .i64) v0.1)] ?_
 refine zQ h (fun hb2 h => ?_) (fun hb2 h => ?_)
 ·refine zo ?_
  refine zB [(6, .int .i64 0), (7, .int .i64 v0.2)] [] ?_
  refine zr ?_
  obtain rfl := Option.some.inj h
  exact zR [] [] []
 ·refine zk ?_
  refine zo ?_
  refine zS 1 [(20, .own 24000)] [(24000, .arr 3 (.int .i64) v0.1)] ?_
  obtain ⟨v0_2, hv3, h⟩ := Option.bind_eq_some_iff.1 h
  refine zC [24000] [] (hc_slices_Max v0.1 hv3) [(21, .int .i64 v0_2)] [] ?_
  refine zB [(6, .int .i64 v0_2), (7, .int .i64 0)] [] ?_
  refine AW.ret ?_
  obtain rfl := Option.some.inj h
  exact zR [] [] []

theorem hc_progress_Longest (g : Int × (List (Int × Int × Int × Bool))) {r : Int × Int} (h : progress_Longest g = some r) : HC Try.prog 40 [] [.agg [.int .i64 g.1, .sl (.pair (.int .i64) (.pair (.int .i64) (.pair (.int .i64) .bool))) g.2]] [] (.tup [.int .i64 r.1, .int .i64 r.2]) := by
 unfold progress_Longest at h
 refine zH Try.func40 [.tmp 2, .tmp 3] 8 ?_
 refine zo ?_
 refine zB [(1, .bp 1 0)] [(1, .box 24 [.int .i64 g.1, .sl (.pair (.int .i64) (.pair (.int .i64) (.pair (.int .i64) .bool))) g.2])] ?_
 refine zo ?_
 refine zS 1 [(4, .agg [.int .i64 g.1, .sl (.pair (.int .i64) (.pair (.int .i64) (.pair (.int .i64) .bool))) g.2])] [] ?_
 obtain ⟨v0, hv1, h⟩ := Option.bind_eq_some_iff.1 h
 refine zC [] [] (hc_progress_greatest g 0 0 hv1) [(5, .tup [.int .i64 v0.1, .int .i64 v0.2])] [] ?_
 refine zB [(2, .int .i64 v0.1), (3, .int .i64 v0.2)] [] ?_
 refine AW.ret ?_
 obtain rfl := Option.some.inj h
 exact zR [] [] []

theorem hc_linealref07_greatest (g : Int × (List (Int × Int × Int × Bool))) (claim : Int) (thread : Int) {r : Int × Int} (h : linealref07_greatest g claim thread = some r) : HC Try.prog 81 [] [.agg [.int .i64 g.1, .sl (.pair (.int .i64) (.pair (.int .i64) (.pair (.int .i64) .bool))) g.2], .int .i64 claim, .int .i64 thread] [] (.tup [.int .i64 r.1, .int .i64 r.2]) := by
 unfold linealref07_greatest at h
 refine zH Try.func81 [.tmp 6, .tmp 7] 33 ?_
 refine zo ?_
 refine zB [(1, .int .i64 claim), (2, .int .i64 thread), (3, .bp 3 0)] [(3, .box 24 [.int .i64 g.1, .sl (.pair (.int .i64) (.pair (.int .i64) (.pair (.int .i64) .bool))) g.2])] ?_
 refine zo ?_
 refine zS 3 [(14, .agg [.int .i64 g.1, .sl (.pair (.int .i64) (.pair (.int .i64) (.pair (.int .i64) .bool))) g.2]), (15, .int .i64 claim), (16, .int .i64 thread)] [] ?_
 obtain ⟨v0, hv1, h⟩ := Option.bind_eq_some_iff.1 h
 refine zC [] [] (hc_linealref07_ranks g claim thread hv1) [(17, .tup [.own 27000, .bool v0.2])] [(27000, .arr 3 (.int .i64) v0.1)] ?_
 refine zB [(8, .own 27000), (9, .bool v0.2)] [(27000, .arr 3 (.int .i64) v0.1)] ?_
 refine AW.seq ?_
 refine zo ?_
 refine zB [(8, .own 27000), (21, .bool (!v0.2))] [(27000, .arr 3 (.int .i64) v0.1)] ?_
 refine zQ h (fun hb2 h => ?_) (fun hb2 h => ?_)
 ·refine zo ?_
  refine zB [(6, .int .i64 0), (7, .int .i64 5)] [] ?_
  refine zr ?_
  obtain rfl := Option.some.inj h
  exact zR [] [] []
 ·refine zk ?_
  refine zo ?_
  refine zB [(8, .own 27000), (10, .int .i64 0)] [(27000, .arr 3 (.int .i64) v0.1)] ?_
  refine AW.have1 (fun b1 : Int => linealref07_greatest_k1 b1 = some r) (fun b1 => ⟨fr [(10, .int .i64 b1)], hpGet [], gt⟩) (fun b1 h => ?_) (fun hk_linealref07_greatest_k1 => ?_)
  ·as_aux_lemma =>
    unfold linealref07_greatest_k1 at h
    refine zo ?_
    refine zB [(6, .int .i64 b1), (7, .int .i64 0)] [] ?_
    refine AW.ret ?_
    obtain rfl := Option.some.inj h
    exact zR [] [] []
  ·refine AW.seq ?_
   refine zo ?_
   refine zB [(10, .int .i64 0), (22, .own 27000), (23, .int .i64 (v0.1.length : Int)), (24, .int .i64 0)] [(27000, .arr 3 (.int .i64) v0.1)] ?_
   refine AW.block ?_
   obtain ⟨rv7, hw3, ho4⟩ := Option.bind_eq_some_iff.1 h
   refine AW.loopO (linealref07_greatest_b1 v0) (fun st1 => ⟨fr [(10, .int .i64 st1.1), (22, .own 27000), (23, .int .i64 (v0.1.length : Int)), (24, .int .i64 st1.2)], hpGet [(27000, .arr 3 (.int .i64) v0.1)], gt⟩) (0, 0) hw3 (zL [] [] []) ?_
   as_aux_lemma =>
    intro st1 x6 h hd5
    unfold linealref07_greatest_b1 at h
    refine zo ?_
    refine zB [(10, .int .i64 st1.1), (22, .own 27000), (23, .int .i64 (v0.1.length : Int)), (24, .int .i64 st1.2), (25, .bool (decide (st1.2 < (v0.1.length : Int))))] [(27000, .arr 3 (.int .i64) v0.1)] ?_
    refine AW.seq ?_
    refine zQ h (fun hb8 h => ?_) (fun hb8 h => ?_)
    ·refine zk ?_
     refine AW.seq ?_
     refine AW.block ?_
     refine zo ?_
     obtain ⟨c9, h⟩ := ck_some.1 h
     obtain ⟨c10, h⟩ := ck_some.1 h
     refine zB [(10, .int .i64 st1.1), (12, .int .i64 (v0.1.getD st1.2.toNat 0)), (22, .own 27000), (23, .int .i64 (v0.1.length : Int)), (24, .int .i64 st1.2)] [(27000, .arr 3 (.int .i64) v0.1)] ?_
     refine AW.ops ?_
     refine zA [(10, .int .i64 (max st1.1 (v0.1.getD st1.2.toNat 0))), (22, .own 27000), (23, .int .i64 (v0.1.length : Int)), (24, .int .i64 st1.2)] [(27000, .arr 3 (.int .i64) v0.1)] ?_
     refine ablock_n ?_
     refine athen_n ?_
     refine AW.ops ?_
     obtain ⟨c11, h⟩ := ck_some.1 h
     refine zA [(10, .int .i64 (max st1.1 (v0.1.getD st1.2.toNat 0))), (22, .own 27000), (23, .int .i64 (v0.1.length : Int)), (24, .int .i64 (st1.2 + 1))] [(27000, .arr 3 (.int .i64) v0.1)] ?_
     obtain rfl := Option.some.inj h
     exact ⟨_, rfl, zL [] [] []⟩
    ·refine AW.exit ?_
     refine athen_e ?_
     obtain rfl := Option.some.inj h
     rw [← hd5 _ rfl] at ho4
     have h := ho4
     refine athen_e ?_
     refine ablock_s ?_
     refine athen_n ?_
     exact AW.weaken (zL [] [] []) (hk_linealref07_greatest_k1 _ h)

theorem hc_linealref07_Longest (g : Int × (List (Int × Int × Int × Bool))) {r : Int × Int} (h : linealref07_Longest g = some r) : HC Try.prog 41 [] [.agg [.int .i64 g.1, .sl (.pair (.int .i64) (.pair (.int .i64) (.pair (.int .i64) .bool))) g.2]] [] (.tup [.int .i64 r.1, .int .i64 r.2]) := by
 unfold linealref07_Longest at h
 refine zH Try.func41 [.tmp 2, .tmp 3] 11 ?_
 refine zo ?_
 refine zB [(1, .bp 1 0)] [(1, .box 24 [.int .i64 g.1, .sl (.pair (.int .i64) (.pair (.int .i64) (.pair (.int .i64) .bool))) g.2])] ?_
 refine AW.seq ?_
 refine zo ?_
 refine zS 1 [(1, .bp 1 0), (4, .agg [.int .i64 g.1, .sl (.pair (.int .i64) (.pair (.int .i64) (.pair (.int .i64) .bool))) g.2])] [(1, .box 24 [.int .i64 g.1, .sl (.pair (.int .i64) (.pair (.int .i64) (.pair (.int .i64) .bool))) g.2])] ?_
 obtain ⟨v0, hv1, h⟩ := Option.bind_eq_some_iff.1 h
 refine zC [] [] (hc_linealref07_Valid g hv1) [(1, .bp 1 0), (5, .bool v0)] [(1, .box 24 [.int .i64 g.1, .sl (.pair (.int .i64) (.pair (.int .i64) (.pair (.int .i64) .bool))) g.2])] ?_
 refine zB [(1, .bp 1 0), (6, .bool (!v0))] [(1, .box 24 [.int .i64 g.1, .sl (.pair (.int .i64) (.pair (.int .i64) (.pair (.int .i64) .bool))) g.2])] ?_
 refine zQ h (fun hb2 h => ?_) (fun hb2 h => ?_)
 ·refine zo ?_
  refine zB [(2, .int .i64 0), (3, .int .i64 70)] [] ?_
  refine zr ?_
  obtain rfl := Option.some.inj h
  exact zR [] [] []
 ·refine zk ?_
  refine zo ?_
  refine zS 1 [(7, .agg [.int .i64 g.1, .sl (.pair (.int .i64) (.pair (.int .i64) (.pair (.int .i64) .bool))) g.2])] [] ?_
  obtain ⟨v0_2, hv3, h⟩ := Option.bind_eq_some_iff.1 h
  refine zC [] [] (hc_linealref07_greatest g 0 0 hv3) [(8, .tup [.int .i64 v0_2.1, .int .i64 v0_2.2])] [] ?_
  refine zB [(2, .int .i64 v0_2.1), (3, .int .i64 v0_2.2)] [] ?_
  refine AW.ret ?_
  obtain rfl := Option.some.inj h
  exact zR [] [] []

theorem hc_progress_Bound (g : Int × (List (Int × Int × Int × Bool))) (thread : Int) {r : Int × Int} (h : progress_Bound g thread = some r) : HC Try.prog 42 [] [.agg [.int .i64 g.1, .sl (.pair (.int .i64) (.pair (.int .i64) (.pair (.int .i64) .bool))) g.2], .int .i64 thread] [] (.tup [.int .i64 r.1, .int .i64 r.2]) := by
 unfold progress_Bound at h
 refine zH Try.func42 [.tmp 4, .tmp 5] 11 ?_
 refine zo ?_
 refine zB [(1, .int .i64 thread), (2, .bp 2 0)] [(2, .box 24 [.int .i64 g.1, .sl (.pair (.int .i64) (.pair (.int .i64) (.pair (.int .i64) .bool))) g.2])] ?_
 refine zo ?_
 refine zS 2 [(6, .agg [.int .i64 g.1, .sl (.pair (.int .i64) (.pair (.int .i64) (.pair (.int .i64) .bool))) g.2]), (7, .int .i64 thread)] [] ?_
 obtain ⟨v0, hv1, h⟩ := Option.bind_eq_some_iff.1 h
 refine zC [] [] (hc_progress_greatest g 1 thread hv1) [(8, .tup [.int .i64 v0.1, .int .i64 v0.2])] [] ?_
 refine zB [(4, .int .i64 v0.1), (5, .int .i64 v0.2)] [] ?_
 refine AW.ret ?_
 obtain rfl := Option.some.inj h
 exact zR [] [] []

theorem hc_linealref07_Bound (g : Int × (List (Int × Int × Int × Bool))) (thread : Int) {r : Int × Int} (h : linealref07_Bound g thread = some r) : HC Try.prog 43 [] [.agg [.int .i64 g.1, .sl (.pair (.int .i64) (.pair (.int .i64) (.pair (.int .i64) .bool))) g.2], .int .i64 thread] [] (.tup [.int .i64 r.1, .int .i64 r.2]) := by
 unfold linealref07_Bound at h
 refine zH Try.func43 [.tmp 4, .tmp 5] 18 ?_
 refine zo ?_
 refine zB [(1, .int .i64 thread), (2, .bp 2 0)] [(2, .box 24 [.int .i64 g.1, .sl (.pair (.int .i64) (.pair (.int .i64) (.pair (.int .i64) .bool))) g.2])] ?_
 refine AW.seq ?_
 refine zo ?_
 refine zS 2 [(1, .int .i64 thread), (2, .bp 2 0), (7, .agg [.int .i64 g.1, .sl (.pair (.int .i64) (.pair (.int .i64) (.pair (.int .i64) .bool))) g.2]), (8, .int .i64 thread)] [(2, .box 24 [.int .i64 g.1, .sl (.pair (.int .i64) (.pair (.int .i64) (.pair (.int .i64) .bool))) g.2])] ?_
 obtain ⟨v0, hv1, h⟩ := Option.bind_eq_some_iff.1 h
 refine zC [] [] (hc_linealref07_asked g 1 thread hv1) [(1, .int .i64 thread), (2, .bp 2 0), (9, .int .i64 v0)] [(2, .box 24 [.int .i64 g.1, .sl (.pair (.int .i64) (.pair (.int .i64) (.pair (.int .i64) .bool))) g.2])] ?_
 refine zB [(1, .int .i64 thread), (2, .bp 2 0), (6, .int .i64 v0)] [(2, .box 24 [.int .i64 g.1, .sl (.pair (.int .i64) (.pair (.int .i64) (.pair (.int .i64) .bool))) g.2])] ?_
 refine zo ?_
 refine zB [(1, .int .i64 thread), (2, .bp 2 0), (6, .int .i64 v0), (11, .bool (!(decide (v0 = 0))))] [(2, .box 24 [.int .i64 g.1, .sl (.pair (.int .i64) (.pair (.int .i64) (.pair (.int .i64) .bool))) g.2])] ?_
 refine zQ h (fun hb2 h => ?_) (fun hb2 h => ?_)
 ·refine zo ?_
  refine zB [(4, .int .i64 0), (5, .int .i64 v0)] [] ?_
  refine zr ?_
  obtain rfl := Option.some.inj h
  exact zR [] [] []
 ·refine zk ?_
  refine zo ?_
  refine zS 2 [(13, .agg [.int .i64 g.1, .sl (.pair (.int .i64) (.pair (.int .i64) (.pair (.int .i64) .bool))) g.2]), (14, .int .i64 thread)] [] ?_
  obtain ⟨v0_2, hv3, h⟩ := Option.bind_eq_some_iff.1 h
  refine zC [] [] (hc_linealref07_greatest g 1 thread hv3) [(15, .tup [.int .i64 v0_2.1, .int .i64 v0_2.2])] [] ?_
  refine zB [(4, .int .i64 v0_2.1), (5, .int .i64 v0_2.2)] [] ?_
  refine AW.ret ?_
  obtain rfl := Option.some.inj h
  exact zR [] [] []

theorem hc_lineallaw07_ProgressNumbers (g : Int × (List (Int × Int × Int × Bool))) (thread : Int) {r : Bool} (h : lineallaw07_ProgressNumbers g thread = some r) : HC Try.prog 6 [] [.agg [.int .i64 g.1, .sl (.pair (.int .i64) (.pair (.int .i64) (.pair (.int .i64) .bool))) g.2], .int .i64 thread] [] (.bool r) := by
 unfold lineallaw07_ProgressNumbers at h
 refine zH Try.func6 [.tmp 4] 79 ?_
 refine zo ?_
 refine zB [(1, .int .i64 thread), (2, .bp 2 0)] [(2, .box 24 [.int .i64 g.1, .sl (.pair (.int .i64) (.pair (.int .i64) (.pair (.int .i64) .bool))) g.2])] ?_
 refine AW.seq ?_
 refine zo ?_
 refine zS 1 [(1, .int .i64 thread), (2, .bp 2 0), (15, .agg [.int .i64 g.1, .sl (.pair (.int .i64) (.pair (.int .i64) (.pair (.int .i64) .bool))) g.2])] [(2, .box 24 [.int .i64 g.1, .sl (.pair (.int .i64) (.pair (.int .i64) (.pair (.int .i64) .bool))) g.2])] ?_
 obtain ⟨v0, hv1, h⟩ := Option.bind_eq_some_iff.1 h
 refine zC [] [] (hc_lineallaw07_Long g hv1) [(1, .int .i64 thread), (2, .bp 2 0), (16, .bool (decide (100 < (g.2.length : Int))))] [(2, .box 24 [.int .i64 g.1, .sl (.pair (.int .i64) (.pair (.int .i64) (.pair (.int .i64) .bool))) g.2])] ?_
 refine zB [(1, .int .i64 thread), (2, .bp 2 0), (16, .bool (decide (100 < (g.2.length : Int))))] [(2, .box 24 [.int .i64 g.1, .sl (.pair (.int .i64) (.pair (.int .i64) (.pair (.int .i64) .bool))) g.2])] ?_
 refine zQ h (fun hb2 h => ?_) (fun hb2 h => ?_)
 ·refine zo ?_
  obtain ⟨v0_2, hv3, h⟩ := Option.bind_eq_some_iff.1 h
  refine zC [] [] (hc_lineallaw07_Awake hv3) [(17, .bool v0_2)] [] ?_
  refine zB [(4, .bool v0_2)] [] ?_
  refine zr ?_
  obtain rfl := Option.some.inj h
  exact zR [] [] []
 ·refine zk ?_
  refine zo ?_
  refine zS 1 [(1, .int .i64 thread), (2, .bp 2 0), (19, .agg [.int .i64 g.1, .sl (.pair (.int .i64) (.pair (.int .i64) (.pair (.int .i64) .bool))) g.2])] [(2, .box 24 [.int .i64 g.1, .sl (.pair (.int .i64) (.pair (.int .i64) (.pair (.int .i64) .bool))) g.2])] ?_
  obtain ⟨v0_3, hv4, h⟩ := Option.bind_eq_some_iff.1 h
  refine zC [] [] (hc_progress_Everybody g hv4) [(1, .int .i64 thread), (2, .bp 2 0), (20, .tup [.bool v0_3.1, .int .i64 v0_3.2])] [(2, .box 24 [.int .i64 g.1, .sl (.pair (.int .i64) (.pair (.int .i64) (.pair (.int .i64) .bool))) g.2])] ?_
  refine zB [(1, .int .i64 thread), (2, .bp 2 0), (5, .bool v0_3.1), (6, .int .i64 v0_3.2)] [(2, .box 24 [.int .i64 g.1, .sl (.pair (.int .i64) (.pair (.int .i64) (.pair (.int .i64) .bool))) g.2])] ?_
  refine zo ?_
  refine zS 1 [(1, .int .i64 thread), (2, .bp 2 0), (5, .bool v0_3.1), (6, .int .i64 v0_3.2), (24, .agg [.int .i64 g.1, .sl (.pair (.int .i64) (.pair (.int .i64) (.pair (.int .i64) .bool))) g.2])] [(2, .box 24 [.int .i64 g.1, .sl (.pair (.int .i64) (.pair (.int .i64) (.pair (.int .i64) .bool))) g.2])] ?_
  obtain ⟨v0_4, hv5, h⟩ := Option.bind_eq_some_iff.1 h
  refine zC [] [] (hc_linealref07_Everybody g hv5) [(1, .int .i64 thread), (2, .bp 2 0), (5, .bool v0_3.1), (6, .int .i64 v0_3.2), (25, .tup [.bool v0_4.1, .int .i64 v0_4.2])] [(2, .box 24 [.int .i64 g.1, .sl (.pair (.int .i64) (.pair (.int .i64) (.pair (.int .i64) .bool))) g.2])] ?_
  refine zB [(1, .int .i64 thread), (2, .bp 2 0), (5, .bool v0_3.1), (6, .int .i64 v0_3.2), (7, .bool v0_4.1), (8, .int .i64 v0_4.2)] [(2, .box 24 [.int .i64 g.1, .sl (.pair (.int .i64) (.pair (.int .i64) (.pair (.int .i64) .bool))) g.2])] ?_
  refine AW.seq ?_
  refine zo ?_
  refine zS 4 [(1, .int .i64 thread), (2, .bp 2 0), (6, .int .i64 v0_3.2), (8, .int .i64 v0_4.2), (31, .bool ((v0_3.1 == v0_4.1) != true))] [(2, .box 24 [.int .i64 g.1, .sl (.pair (.int .i64) (.pair (.int .i64) (.pair (.int .i64) .bool))) g.2])] ?_
  rcases zI h with ⟨hb6, h⟩ | ⟨hb6, h⟩
  ·refine zB [(1, .int .i64 thread), (2, .bp 2 0), (35, .bool true)] [(2, .box 24 [.int .i64 g.1, .sl (.pair (.int .i64) (.pair (.int .i64) (.pair (.int .i64) .bool))) g.2])] ?_
   refine AW.cond (b := true) rfl (fun _ => ?_) (fun hb7 => by cases hb7)
   refine zo ?_
   refine zB [(4, .bool false)] [] ?_
   refine zr ?_
   obtain rfl := Option.some.inj h
   exact zR [] [] []
  ·refine zB [(1, .int .i64 thread), (2, .bp 2 0), (35, .bool (!(decide (v0_3.2 = v0_4.2))))] [(2, .box 24 [.int .i64 g.1, .sl (.pair (.int .i64) (.pair (.int .i64) (.pair (.int .i64) .bool))) g.2])] ?_
   refine zQ h (fun hb8 h => ?_) (fun hb8 h => ?_)
   ·refine zo ?_
    refine zB [(4, .bool false)] [] ?_
    refine zr ?_
    obtain rfl := Option.some.inj h
    exact zR [] [] []
   ·refine zk ?_
    refine zo ?_
    refine zS 1 [(1, .int .i64 thread), (2, .bp 2 0), (37, .agg [.int .i64 g.1, .sl (.pair (.int .i64) (.pair (.int .i64) (.pair (.int .i64) .bool))) g.2])] [(2, .box 24 [.int .i64 g.1, .sl (.pair (.int .i64) (.pair (.int .i64) (.pair (.int .i64) .bool))) g.2])] ?_
    obtain ⟨v0_5, hv9, h⟩ := Option.bind_eq_some_iff.1 h
    refine zC [] [] (hc_progress_Longest g hv9) [(1, .int .i64 thread), (2, .bp 2 0), (38, .tup [.int .i64 v0_5.1, .int .i64 v0_5.2])] [(2, .box 24 [.int .i64 g.1, .sl (.pair (.int .i64) (.pair (.int .i64) (.pair (.int .i64) .bool))) g.2])] ?_
    refine zB [(1, .int .i64 thread), (2, .bp 2 0), (6, .int .i64 v0_5.2), (9, .int .i64 v0_5.1)] [(2, .box 24 [.int .i64 g.1, .sl (.pair (.int .i64) (.pair (.int .i64) (.pair (.int .i64) .bool))) g.2])] ?_
    refine zo ?_
    refine zS 1 [(1, .int .i64 thread), (2, .bp 2 0), (6, .int .i64 v0_5.2), (9, .int .i64 v0_5.1), (42, .agg [.int .i64 g.1, .sl (.pair (.int .i64) (.pair (.int .i64) (.pair (.int .i64) .bool))) g.2])] [(2, .box 24 [.int .i64 g.1, .sl (.pair (.int .i64) (.pair (.int .i64) (.pair (.int .i64) .bool))) g.2])] ?_
    obtain ⟨v0_6, hv10, h⟩ := Option.bind_eq_some_iff.1 h
    refine zC [] [] (hc_linealref07_Longest g hv10) [(1, .int .i64 thread), (2, .bp 2 0), (6, .int .i64 v0_5.2), (9, .int .i64 v0_5.1), (43, .tup [.int .i64 v0_6.1, .int .i64 v0_6.2])] [(2, .box 24 [.int .i64 g.1, .sl (.pair (.int .i64) (.pair (.int .i64) (.pair (.int .i64) .bool))) g.2])] ?_
    refine zB [(1, .int .i64 thread), (2, .bp 2 0), (6, .int .i64 v0_5.2), (8, .int .i64 v0_6.2), (9, .int .i64 v0_5.1), (10, .int .i64 v0_6.1)] [(2, .box 24 [.int .i64 g.1, .sl (.pair (.int .i64) (.pair (.int .i64) (.pair (.int .i64) .bool))) g.2])] ?_
    refine zo ?_
    refine zS 2 [(1, .int .i64 thread), (2, .bp 2 0), (6, .int .i64 v0_5.2), (8, .int .i64 v0_6.2), (9, .int .i64 v0_5.1), (10, .int .i64 v0_6.1), (47, .agg [.int .i64 g.1, .sl (.pair (.int .i64) (.pair (.int .i64) (.pair (.int .i64) .bool))) g.2]), (48, .int .i64 thread)] [(2, .box 24 [.int .i64 g.1, .sl (.pair (.int .i64) (.pair (.int .i64) (.pair (.int .i64) .bool))) g.2])] ?_
    obtain ⟨v0_7, hv11, h⟩ := Option.bind_eq_some_iff.1 h
    refine zC [] [] (hc_progress_Bound g thread hv11) [(1, .int .i64 thread), (2, .bp 2 0), (6, .int .i64 v0_5.2), (8, .int .i64 v0_6.2), (9, .int .i64 v0_5.1), (10, .int .i64 v0_6.1), (49, .tup [.int .i64 v0_7.1, .int .i64 v0_7.2])] [(2, .box 24 [.int .i64 g.1, .sl (.pair (.int .i64) (.pair (.int .i64) (.pair (.int .i64) .bool))) g.2])] ?_
    refine zB [(1, .int .i64 thread), (2, .bp 2 0), (6, .int .i64 v0_5.2), (8, .int .i64 v0_6.2), (9, .int .i64 v0_5.1), (10, .int .i64 v0_6.1), (11, .int .i64 v0_7.1), (12, .int .i64 v0_7.2)] [(2, .box 24 [.int .i64 g.1, .sl (.pair (.int .i64) (.pair (.int .i64) (.pair (.int .i64) .bool))) g.2])] ?_
    refine zo ?_
    refine zS 2 [(6, .int .i64 v0_5.2), (8, .int .i64 v0_6.2), (9, .int .i64 v0_5.1), (10, .int .i64 v0_6.1), (11, .int .i64 v0_7.1), (12, .int .i64 v0_7.2), (53, .agg [.int .i64 g.1, .sl (.pair (.int .i64) (.pair (.int .i64) (.pair (.int .i64) .bool))) g.2]), (54, .int .i64 thread)] [] ?_
    obtain ⟨v0_8, hv12, h⟩ := Option.bind_eq_some_iff.1 h
    refine zC [] [] (hc_linealref07_Bound g thread hv12) [(6, .int .i64 v0_5.2), (8, .int .i64 v0_6.2), (9, .int .i64 v0_5.1), (10, .int .i64 v0_6.1), (11, .int .i64 v0_7.1), (12, .int .i64 v0_7.2), (55, .tup [.int .i64 v0_8.1, .int .i64 v0_8.2])] [] ?_
    refine zB [(6, .int .i64 v0_5.2), (8, .int .i64 v0_6.2), (9, .int .i64 v0_5.1), (10, .int .i64 v0_6.1), (11, .int .i64 v0_7.1), (12, .int .i64 v0_7.2), (13, .int .i64 v0_8.1), (14, .int .i64 v0_8.2)] [] ?_
    refine zo ?_
    refine zS 4 [(6, .int .i64 v0_5.2), (8, .int .i64 v0_6.2), (11, .int .i64 v0_7.1), (12, .int .i64 v0_7.2), (13, .int .i64 v0_8.1), (14, .int .i64 v0_8.2), (61, .bool (decide (v0_5.1 = v0_6.1)))] [] ?_
    rcases zI h with ⟨hb13, h⟩ | ⟨hb13, h⟩
    ·refine zS 5 [(11, .int .i64 v0_7.1), (12, .int .i64 v0_7.2), (13, .int .i64 v0_8.1), (14, .int .i64 v0_8.2), (66, .bool (decide (v0_5.2 = v0_6.2)))] [] ?_
     rcases zI h with ⟨hb14, h⟩ | ⟨hb14, h⟩
     ·refine zS 5 [(12, .int .i64 v0_7.2), (14, .int .i64 v0_8.2), (71, .bool (decide (v0_7.1 = v0_8.1)))] [] ?_
      rcases zI h with ⟨hb15, h⟩ | ⟨hb15, h⟩
      ·refine zS 5 [(76, .bool (decide (v0_7.2 = v0_8.2)))] [] ?_
       rcases zI h with ⟨hb16, h⟩ | ⟨hb16, h⟩
       ·refine zT [(76, .bool true)] [] gt ?_
        obtain ⟨v0_9, hv17, h⟩ := Option.bind_eq_some_iff.1 h
        refine zG [] [] (hc_lineallaw07_Awake hv17) [(76, .bool true), (77, .bool v0_9)] [] ?_
        refine zB [(4, .bool v0_9)] [] ?_
        refine AW.ret ?_
        obtain rfl := Option.some.inj h
        exact zR [] [] []
       ·refine zB [(4, .bool false)] [] ?_
        refine AW.ret ?_
        obtain rfl := Option.some.inj h
        exact zR [] [] []
      ·refine zS 5 [(76, .bool false)] [] ?_
       refine zB [(4, .bool false)] [] ?_
       refine AW.ret ?_
       obtain rfl := Option.some.inj h
       exact zR [] [] []
     ·refine zS 5 [(12, .int .i64 v0_7.2), (14, .int .i64 v0_8.2), (71, .bool false)] [] ?_
      refine zS 5 [(76, .bool false)] [] ?_
      refine zB [(4, .bool false)] [] ?_
      refine AW.ret ?_
      obtain rfl := Option.some.inj h
      exact zR [] [] []
    ·refine zS 5 [(11, .int .i64 v0_7.1), (12, .int .i64 v0_7.2), (13, .int .i64 v0_8.1), (14, .int .i64 v0_8.2), (66, .bool false)] [] ?_
     refine zS 5 [(12, .int .i64 v0_7.2), (14, .int .i64 v0_8.2), (71, .bool false)] [] ?_
     refine zS 5 [(76, .bool false)] [] ?_
     refine zB [(4, .bool false)] [] ?_
     refine AW.ret ?_
     obtain rfl := Option.some.inj h
     exact zR [] [] []

end Go.Proofs.Yteclokkdgmacpaa
