/-
  Made by wip/tool/dc.py out of the print of the program: contracts.
-/
import Derived.Test.YteclokkdgmacpaaGrp
import Derived.Test.YteclokkdgmacpaaSh7
import Derived.Test.YteclokkdgmacpaaGmc1
import Derived.Test.YteclokkdgmacpaaGmc3
import Derived.Test.YteclokkdgmacpaaGmc6
import Derived.Test.YteclokkdgmacpaaGmc7
namespace Go.Proofs.Yteclokkdgmacpaa
open Go.RowKit

set_option linter.unusedSimpArgs false
set_option linter.unusedVariables false
set_option linter.constructorNameAsVariable false

set_option maxRecDepth 100000
set_option maxHeartbeats 40000000

theorem hc_linealref07_IsPath (g : Int × (List (Int × Int × Int × Bool))) (path : List Int) {r : Bool × Int} (h : linealref07_IsPath g path = some r) : HC Try.prog 19 [] [.agg [.int .i64 g.1, .sl (.pair (.int .i64) (.pair (.int .i64) (.pair (.int .i64) .bool))) g.2], .sl (.int .i64) path] [] (.tup [.bool r.1, .int .i64 r.2]) := by
 unfold linealref07_IsPath at h
 refine zH Try.func19 [.tmp 4, .tmp 5] 12 ?_
 refine zo ?_
 refine zB [(1, .sl (.int .i64) path), (2, .bp 2 0)] [(2, .box 24 [.int .i64 g.1, .sl (.pair (.int .i64) (.pair (.int .i64) (.pair (.int .i64) .bool))) g.2])] ?_
 refine AW.seq ?_
 refine zo ?_
 refine zS 1 [(1, .sl (.int .i64) path), (2, .bp 2 0), (6, .agg [.int .i64 g.1, .sl (.pair (.int .i64) (.pair (.int .i64) (.pair (.int .i64) .bool))) g.2])] [(2, .box 24 [.int .i64 g.1, .sl (.pair (.int .i64) (.pair (.int .i64) (.pair (.int .i64) .bool))) g.2])] ?_
 obtain ⟨v0, hv1, h⟩ := Option.bind_eq_some_iff.1 h
 refine zC [] [] (hc_linealref07_Valid g hv1) [(1, .sl (.int .i64) path), (2, .bp 2 0), (7, .bool v0)] [(2, .box 24 [.int .i64 g.1, .sl (.pair (.int .i64) (.pair (.int .i64) (.pair (.int .i64) .bool))) g.2])] ?_
 refine zB [(1, .sl (.int .i64) path), (2, .bp 2 0), (8, .bool (!v0))] [(2, .box 24 [.int .i64 g.1, .sl (.pair (.int .i64) (.pair (.int .i64) (.pair (.int .i64) .bool))) g.2])] ?_
 refine zQ h (fun hb2 h => ?_) (fun hb2 h => ?_)
 ·refine zo ?_
  refine zB [(4, .bool false), (5, .int .i64 70)] [] ?_
  refine zr ?_
  obtain rfl := Option.some.inj h
  exact zR [] [] []
 ·refine zk ?_
  refine zo ?_
  refine zS 2 [(9, .agg [.int .i64 g.1, .sl (.pair (.int .i64) (.pair (.int .i64) (.pair (.int .i64) .bool))) g.2]), (10, .sl (.int .i64) path)] [] ?_
  obtain ⟨v0_2, hv3, h⟩ := Option.bind_eq_some_iff.1 h
  refine zC [] [] (hc_linealref07_isPath g path hv3) [(11, .bool v0_2)] [] ?_
  refine zB [(4, .bool v0_2), (5, .int .i64 0)] [] ?_
  refine AW.ret ?_
  obtain rfl := Option.some.inj h
  exact zR [] [] []

theorem hc_progress_Reached (g : Int × (List (Int × Int × Int × Bool))) {r : (List Int) × Int} (h : progress_Reached g = some r) : HC Try.prog 22 [] [.agg [.int .i64 g.1, .sl (.pair (.int .i64) (.pair (.int .i64) (.pair (.int .i64) .bool))) g.2]] [(2000, .arr 3 (.int .i64) r.1)] (.tup [.own 2000, .int .i64 r.2]) := by
 unfold progress_Reached at h
 refine zH Try.func22 [.tmp 2, .tmp 3] 16 ?_
 refine zo ?_
 refine zB [(1, .bp 1 0)] [(1, .box 24 [.int .i64 g.1, .sl (.pair (.int .i64) (.pair (.int .i64) (.pair (.int .i64) .bool))) g.2])] ?_
 refine zo ?_
 refine zS 1 [(7, .agg [.int .i64 g.1, .sl (.pair (.int .i64) (.pair (.int .i64) (.pair (.int .i64) .bool))) g.2])] [] ?_
 obtain ⟨v0, hv1, h⟩ := Option.bind_eq_some_iff.1 h
 refine zC [] [] (hc_progress_graphOf g hv1) [(8, .tup [.agg [.int .i64 v0.1, .sl (.pair (.int .i64) (.pair (.int .i64) (.pair (.int .i64) .bool))) v0.2.1], .int .i64 v0.2.2])] [] ?_
 refine zS 5 [(4, .bp 4 0), (10, .int .i64 v0.2.2)] [(4, .box 69 [.int .i64 v0.1, .sl (.pair (.int .i64) (.pair (.int .i64) (.pair (.int .i64) .bool))) v0.2.1])] ?_
 refine zB [(4, .bp 4 0), (5, .int .i64 v0.2.2)] [(4, .box 69 [.int .i64 v0.1, .sl (.pair (.int .i64) (.pair (.int .i64) (.pair (.int .i64) .bool))) v0.2.1])] ?_
 refine AW.seq ?_
 refine zo ?_
 refine zB [(4, .bp 4 0), (5, .int .i64 v0.2.2), (12, .bool (!(decide (v0.2.2 = 0))))] [(4, .box 69 [.int .i64 v0.1, .sl (.pair (.int .i64) (.pair (.int .i64) (.pair (.int .i64) .bool))) v0.2.1])] ?_
 refine zQ h (fun hb2 h => ?_) (fun hb2 h => ?_)
 ·refine zo ?_
  refine zB [(2, .cv (.slice none 0 0)), (3, .int .i64 v0.2.2)] [] ?_
  refine zr ?_
  obtain rfl := Option.some.inj h
  exact zR [] [2000] []
 ·refine zk ?_
  refine zo ?_
  refine zS 1 [(14, .agg [.int .i64 v0.1, .sl (.pair (.int .i64) (.pair (.int .i64) (.pair (.int .i64) .bool))) v0.2.1])] [] ?_
  obtain ⟨v0_2, hv3, h⟩ := Option.bind_eq_some_iff.1 h
  refine zC [] [] (hc_progress_graph_reached (v0.1, v0.2.1) hv3) [(15, .own 25000)] [(25000, .arr 3 (.int .i64) v0_2)] ?_
  refine zB [(2, .own 25000), (3, .int .i64 0)] [(25000, .arr 3 (.int .i64) v0_2)] ?_
  refine AW.ret ?_
  obtain rfl := Option.some.inj h
  exact zR [] [] [(2000, 25000)]

theorem hc_lineallaw07_in (l : List Int) (n : Int) {r : Bool} (h : lineallaw07_in l n = some r) : HC Try.prog 53 [] [.sl (.int .i64) l, .int .i64 n] [] (.bool r) := by
 unfold lineallaw07_in at h
 refine zH Try.func53 [.tmp 4] 17 ?_
 refine zo ?_
 refine zB [(0, .sl (.int .i64) l), (1, .int .i64 n)] [] ?_
 refine AW.have1 (fun _ : Unit => lineallaw07_in_k1 = some r) (fun _ => ⟨fr [], hpGet [], gt⟩) (fun _ h => ?_) (fun hk_lineallaw07_in_k1 => ?_)
 ·as_aux_lemma =>
   unfold lineallaw07_in_k1 at h
   refine zo ?_
   refine zB [(4, .bool false)] [] ?_
   refine AW.ret ?_
   obtain rfl := Option.some.inj h
   exact zR [] [] []
 ·refine AW.seq ?_
  refine zo ?_
  refine zB [(1, .int .i64 n), (7, .sl (.int .i64) l), (8, .int .i64 (l.length : Int)), (9, .int .i64 0)] [] ?_
  refine AW.block ?_
  obtain ⟨rv5, hw1, ho2⟩ := Option.bind_eq_some_iff.1 h
  refine AW.loopO (lineallaw07_in_b1 l n) (fun st1 => ⟨fr [(1, .int .i64 n), (7, .sl (.int .i64) l), (8, .int .i64 (l.length : Int)), (9, .int .i64 st1)], hpGet [], gt⟩) 0 hw1 (zL [] [] []) ?_
  as_aux_lemma =>
   intro st1 x4 h hd3
   unfold lineallaw07_in_b1 at h
   refine zo ?_
   refine zB [(1, .int .i64 n), (7, .sl (.int .i64) l), (8, .int .i64 (l.length : Int)), (9, .int .i64 st1), (10, .bool (decide (st1 < (l.length : Int))))] [] ?_
   refine AW.seq ?_
   refine zQ h (fun hb6 h => ?_) (fun hb6 h => ?_)
   ·refine zk ?_
    refine AW.seq ?_
    refine AW.block ?_
    refine zo ?_
    obtain ⟨c7, h⟩ := ck_some.1 h
    obtain ⟨c8, h⟩ := ck_some.1 h
    refine zB [(1, .int .i64 n), (6, .int .i64 (l.getD st1.toNat 0)), (7, .sl (.int .i64) l), (8, .int .i64 (l.length : Int)), (9, .int .i64 st1)] [] ?_
    refine zo ?_
    refine zB [(1, .int .i64 n), (7, .sl (.int .i64) l), (8, .int .i64 (l.length : Int)), (9, .int .i64 st1), (15, .bool (decide ((l.getD st1.toNat 0) = n)))] [] ?_
    refine zQ h (fun hb9 h => ?_) (fun hb9 h => ?_)
    ·refine zo ?_
     refine zB [(4, .bool true)] [] ?_
     refine AW.ret ?_
     refine ablock_r ?_
     refine athen_r ?_
     obtain rfl := Option.some.inj h
     rw [← hd3 _ rfl] at ho2
     have h := ho2
     try simp only at h
     refine athen_r ?_
     refine ablock_r ?_
     refine athen_r ?_
     obtain rfl := Option.some.inj h
     exact zR [] [] []
    ·refine zm ?_
     refine athen_n ?_
     refine AW.ops ?_
     obtain ⟨c10, h⟩ := ck_some.1 h
     refine zA [(1, .int .i64 n), (7, .sl (.int .i64) l), (8, .int .i64 (l.length : Int)), (9, .int .i64 (st1 + 1))] [] ?_
     obtain rfl := Option.some.inj h
     exact ⟨_, rfl, zL [] [] []⟩
   ·refine AW.exit ?_
    refine athen_e ?_
    obtain rfl := Option.some.inj h
    rw [← hd3 _ rfl] at ho2
    have h := ho2
    try simp only at h
    refine athen_e ?_
    refine ablock_s ?_
    refine athen_n ?_
    exact AW.weaken (zL [] [] []) (hk_lineallaw07_in_k1 () h)

theorem hc_slices_Max (x0 : List Int) {r : Int} (h : slices_Max x0 = some r) : HC Try.prog 106 [] [.sl (.int .i64) x0] [] (.int .i64 r) := by
 unfold slices_Max at h
 refine zH Try.func106 [.tmp 2] 25 ?_
 refine zo ?_
 refine zB [(0, .sl (.int .i64) x0)] [] ?_
 refine AW.seq ?_
 refine zo ?_
 refine zB [(0, .sl (.int .i64) x0), (7, .bool (decide ((x0.length : Int) < 1)))] [] ?_
 refine zQ h (fun hb1 h => ?_) (fun hb1 h => ?_)
 ·refine AW.ops ?_
  cases h
 ·refine zk ?_
  refine zo ?_
  obtain ⟨c2, h⟩ := ck_some.1 h
  refine zB [(0, .sl (.int .i64) x0), (3, .int .i64 (x0.getD 0 0))] [] ?_
  refine AW.have1 (fun b1 : Int => slices_Max_k1 b1 = some r) (fun b1 => ⟨fr [(3, .int .i64 b1)], hpGet [], gt⟩) (fun b1 h => ?_) (fun hk_slices_Max_k1 => ?_)
  ·as_aux_lemma =>
    unfold slices_Max_k1 at h
    refine zo ?_
    refine zB [(2, .int .i64 b1)] [] ?_
    refine AW.ret ?_
    obtain rfl := Option.some.inj h
    exact zR [] [] []
  ·refine AW.seq ?_
   refine zo ?_
   refine zB [(0, .sl (.int .i64) x0), (3, .int .i64 (x0.getD 0 0)), (4, .int .i64 1)] [] ?_
   refine AW.block ?_
   obtain ⟨rv7, hw3, ho4⟩ := Option.bind_eq_some_iff.1 h
   refine AW.loopO (slices_Max_b1 x0) (fun st1 => ⟨fr [(0, .sl (.int .i64) x0), (3, .int .i64 st1.1), (4, .int .i64 st1.2)], hpGet [], gt⟩) ((x0.getD 0 0), 1) hw3 (zL [] [] []) ?_
   as_aux_lemma =>
    intro st1 x6 h hd5
    unfold slices_Max_b1 at h
    refine AW.seq ?_
    refine zo ?_
    refine zB [(0, .sl (.int .i64) x0), (3, .int .i64 st1.1), (4, .int .i64 st1.2), (15, .bool (decide (st1.2 < (x0.length : Int))))] [] ?_
    refine zQ h (fun hb8 h => ?_) (fun hb8 h => ?_)
    ·refine zk ?_
     refine AW.seq ?_
     refine AW.block ?_
     refine AW.ops ?_
     obtain ⟨c9, h⟩ := ck_some.1 h
     obtain ⟨c10, h⟩ := ck_some.1 h
     refine zS 5 [(0, .sl (.int .i64) x0), (4, .int .i64 st1.2), (18, .int .i64 st1.1), (22, .int .i64 (x0.getD st1.2.toNat 0))] [] ?_
     refine zA [(0, .sl (.int .i64) x0), (3, .int .i64 (max st1.1 (x0.getD st1.2.toNat 0))), (4, .int .i64 st1.2)] [] ?_
     refine ablock_n ?_
     refine athen_n ?_
     refine AW.ops ?_
     obtain ⟨c11, h⟩ := ck_some.1 h
     refine zA [(0, .sl (.int .i64) x0), (3, .int .i64 (max st1.1 (x0.getD st1.2.toNat 0))), (4, .int .i64 (st1.2 + 1))] [] ?_
     obtain rfl := Option.some.inj h
     exact ⟨_, rfl, zL [] [] []⟩
    ·refine AW.exit ?_
     refine athen_e ?_
     obtain rfl := Option.some.inj h
     rw [← hd5 _ rfl] at ho4
     have h := ho4
     refine athen_e ?_
     refine ablock_s ?_
     refine athen_n ?_
     exact AW.weaken (zL [] [] []) (hk_slices_Max_k1 _ h)

theorem hc_progress_greatest (g : Int × (List (Int × Int × Int × Bool))) (claim : Int) (thread : Int) {r : Int × Int} (h : progress_greatest g claim thread = some r) : HC Try.prog 80 [] [.agg [.int .i64 g.1, .sl (.pair (.int .i64) (.pair (.int .i64) (.pair (.int .i64) .bool))) g.2], .int .i64 claim, .int .i64 thread] [] (.tup [.int .i64 r.1, .int .i64 r.2]) := by
 unfold progress_greatest at h
 refine zH Try.func80 [.tmp 6, .tmp 7] 22 ?_
 refine zo ?_
 refine zB [(1, .int .i64 claim), (2, .int .i64 thread), (3, .bp 3 0)] [(3, .box 24 [.int .i64 g.1, .sl (.pair (.int .i64) (.pair (.int .i64) (.pair (.int .i64) .bool))) g.2])] ?_
 refine zo ?_
 refine zS 3 [(11, .agg [.int .i64 g.1, .sl (.pair (.int .i64) (.pair (.int .i64) (.pair (.int .i64) .bool))) g.2]), (12, .int .i64 claim), (13, .int .i64 thread)] [] ?_
 obtain ⟨v0, hv1, h⟩ := Option.bind_eq_some_iff.1 h
 refine zC [] [] (hc_progress_Ranks g claim thread hv1) [(14, .tup [.own 24000, .int .i64 v0.2])] [(24000, .arr 3 (.int .i64) v0.1)] ?_
 refine zB [(8, .own 24000), (9, .int .i64 v0.2)] [(24000, .arr 3 (.int .i64) v0.1)] ?_
 refine AW.seq ?_
 refine zo ?_
 refine zB [(8, .own 24000), (9, .int .i64 v0.2), (18, .bool (!(decide (v0.2 = 0))))] [(24000, .arr 3 (.int .i64) v0.1)] ?_
 refine zQ h (fun hb2 h => ?_) (fun hb2 h => ?_)
 ·refine zo ?_
  refine zB [(6, .int .i64 0), (7, .int .i64 v0.2)] [] ?_
  refine zr ?_
  obtain rfl := Option.some.inj h
  exact zR [] [] []
 ·refine zk ?_
  refine zo ?_
  refine zS 1 [(20, .own 24000)] [(24000, .arr 3 (.int .i64) v0.1)] ?_
  obtain ⟨v0_2, hv3, h⟩ := Option.bind_eq_some_iff.1 h
  refine zC [24000] [] (hc_slices_Max v0.1 hv3) [(21, .int .i64 v0_2)] [] ?_
  refine zB [(6, .int .i64 v0_2), (7, .int .i64 0)] [] ?_
  refine AW.ret ?_
  obtain rfl := Option.some.inj h
  exact zR [] [] []

theorem hc_progress_Longest (g : Int × (List (Int × Int × Int × Bool))) {r : Int × Int} (h : progress_Longest g = some r) : HC Try.prog 40 [] [.agg [.int .i64 g.1, .sl (.pair (.int .i64) (.pair (.int .i64) (.pair (.int .i64) .bool))) g.2]] [] (.tup [.int .i64 r.1, .int .i64 r.2]) := by
 unfold progress_Longest at h
 refine zH Try.func40 [.tmp 2, .tmp 3] 8 ?_
 refine zo ?_
 refine zB [(1, .bp 1 0)] [(1, .box 24 [.int .i64 g.1, .sl (.pair (.int .i64) (.pair (.int .i64) (.pair (.int .i64) .bool))) g.2])] ?_
 refine zo ?_
 refine zS 1 [(4, .agg [.int .i64 g.1, .sl (.pair (.int .i64) (.pair (.int .i64) (.pair (.int .i64) .bool))) g.2])] [] ?_
 obtain ⟨v0, hv1, h⟩ := Option.bind_eq_some_iff.1 h
 refine zC [] [] (hc_progress_greatest g 0 0 hv1) [(5, .tup [.int .i64 v0.1, .int .i64 v0.2])] [] ?_
 refine zB [(2, .int .i64 v0.1), (3, .int .i64 v0.2)] [] ?_
 refine AW.ret ?_
 obtain rfl := Option.some.inj h
 exact zR [] [] []

theorem hc_progress_Bound (g : Int × (List (Int × Int × Int × Bool))) (thread : Int) {r : Int × Int} (h : progress_Bound g thread = some r) : HC Try.prog 42 [] [.agg [.int .i64 g.1, .sl (.pair (.int .i64) (.pair (.int .i64) (.pair (.int .i64) .bool))) g.2], .int .i64 thread] [] (.tup [.int .i64 r.1, .int .i64 r.2]) := by
 unfold progress_Bound at h
 refine zH Try.func42 [.tmp 4, .tmp 5] 11 ?_
 refine zo ?_
 refine zB [(1, .int .i64 thread), (2, .bp 2 0)] [(2, .box 24 [.int .i64 g.1, .sl (.pair (.int .i64) (.pair (.int .i64) (.pair (.int .i64) .bool))) g.2])] ?_
 refine zo ?_
 refine zS 2 [(6, .agg [.int .i64 g.1, .sl (.pair (.int .i64) (.pair (.int .i64) (.pair (.int .i64) .bool))) g.2]), (7, .int .i64 thread)] [] ?_
 obtain ⟨v0, hv1, h⟩ := Option.bind_eq_some_iff.1 h
 refine zC [] [] (hc_progress_greatest g 1 thread hv1) [(8, .tup [.int .i64 v0.1, .int .i64 v0.2])] [] ?_
 refine zB [(4, .int .i64 v0.1), (5, .int .i64 v0.2)] [] ?_
 refine AW.ret ?_
 obtain rfl := Option.some.inj h
 exact zR [] [] []

theorem hc_lineallaw07_top (ranks : List Int) (there : List Int) (most : Int) (e : Int) {r : Bool} (h : lineallaw07_top ranks there most e = some r) : HC Try.prog 52 [] [.sl (.int .i64) ranks, .sl (.int .i64) there, .int .i64 most, .int .i64 e] [] (.bool r) := by
 unfold lineallaw07_top at h
 refine zH Try.func52 [.tmp 8] 45 ?_
 refine zo ?_
 refine zB [(0, .sl (.int .i64) ranks), (1, .sl (.int .i64) there), (2, .int .i64 most), (3, .int .i64 e)] [] ?_
 refine AW.seq ?_
 refine zo ?_
 refine zB [(0, .sl (.int .i64) ranks), (1, .sl (.int .i64) there), (2, .int .i64 most), (13, .bool (!(decide (e = 0))))] [] ?_
 refine zQ h (fun hb1 h => ?_) (fun hb1 h => ?_)
 ·refine zo ?_
  refine zS 4 [(2, .int .i64 most), (17, .bool (decide ((ranks.length : Int) = 0)))] [] ?_
  rcases zI h with ⟨hb2, h⟩ | ⟨hb2, h⟩
  ·refine zB [(8, .bool (decide (most = 0)))] [] ?_
   refine zr ?_
   obtain rfl := Option.some.inj h
   exact zR [] [] []
  ·refine zB [(8, .bool false)] [] ?_
   refine zr ?_
   obtain rfl := Option.some.inj h
   exact zR [] [] []
 ·refine zk ?_
  refine zo ?_
  refine zB [(0, .sl (.int .i64) ranks), (1, .sl (.int .i64) there), (2, .int .i64 most), (9, .int .i64 0)] [] ?_
  refine AW.have1 (fun b1 : Int => lineallaw07_top_k1 most b1 = some r) (fun b1 => ⟨fr [(2, .int .i64 most), (9, .int .i64 b1)], hpGet [], gt⟩) (fun b1 h => ?_) (fun hk_lineallaw07_top_k1 => ?_)
  ·as_aux_lemma =>
    unfold lineallaw07_top_k1 at h
    refine zo ?_
    refine zB [(8, .bool (decide (b1 = most)))] [] ?_
    refine AW.ret ?_
    obtain rfl := Option.some.inj h
    exact zR [] [] []
  ·refine AW.seq ?_
   refine zo ?_
   refine zB [(0, .sl (.int .i64) ranks), (2, .int .i64 most), (9, .int .i64 0), (21, .sl (.int .i64) there), (22, .int .i64 (there.length : Int)), (23, .int .i64 0)] [] ?_
   refine AW.block ?_
   obtain ⟨rv7, hw3, ho4⟩ := Option.bind_eq_some_iff.1 h
   refine AW.loopO (lineallaw07_top_b1 ranks there) (fun st1 => ⟨fr [(0, .sl (.int .i64) ranks), (2, .int .i64 most), (9, .int .i64 st1.1), (21, .sl (.int .i64) there), (22, .int .i64 (there.length : Int)), (23, .int .i64 st1.2)], hpGet [], gt⟩) (0, 0) hw3 (zL [] [] []) ?_
   as_aux_lemma =>
    intro st1 x6 h hd5
    unfold lineallaw07_top_b1 at h
    refine zo ?_
    refine zB [(0, .sl (.int .i64) ranks), (2, .int .i64 most), (9, .int .i64 st1.1), (21, .sl (.int .i64) there), (22, .int .i64 (there.length : Int)), (23, .int .i64 st1.2), (24, .bool (decide (st1.2 < (there.length : Int))))] [] ?_
    refine AW.seq ?_
    refine zQ h (fun hb8 h => ?_) (fun hb8 h => ?_)
    ·refine zk ?_
     refine AW.seq ?_
     refine AW.block ?_
     refine zo ?_
     obtain ⟨c9, h⟩ := ck_some.1 h
     obtain ⟨c10, h⟩ := ck_some.1 h
     refine zB [(0, .sl (.int .i64) ranks), (2, .int .i64 most), (9, .int .i64 st1.1), (11, .int .i64 (there.getD st1.2.toNat 0)), (21, .sl (.int .i64) there), (22, .int .i64 (there.length : Int)), (23, .int .i64 st1.2)] [] ?_
     refine AW.seq ?_
     refine zo ?_
     refine zS 3 [(0, .sl (.int .i64) ranks), (2, .int .i64 most), (9, .int .i64 st1.1), (11, .int .i64 (there.getD st1.2.toNat 0)), (21, .sl (.int .i64) there), (22, .int .i64 (there.length : Int)), (23, .int .i64 st1.2), (29, .bool (decide ((there.getD st1.2.toNat 0) < 0)))] [] ?_
     rcases zI h with ⟨hb11, h⟩ | ⟨hb11, h⟩
     ·refine zS 4 [(0, .sl (.int .i64) ranks), (2, .int .i64 most), (9, .int .i64 st1.1), (11, .int .i64 (there.getD st1.2.toNat 0)), (21, .sl (.int .i64) there), (22, .int .i64 (there.length : Int)), (23, .int .i64 st1.2), (29, .bool true), (33, .cv (undef))] [] ?_
      refine zB [(0, .sl (.int .i64) ranks), (2, .int .i64 most), (9, .int .i64 st1.1), (11, .int .i64 (there.getD st1.2.toNat 0)), (21, .sl (.int .i64) there), (22, .int .i64 (there.length : Int)), (23, .int .i64 st1.2), (34, .bool true)] [] ?_
      refine AW.cond (b := true) rfl (fun _ => ?_) (fun hb12 => by cases hb12)
      refine zo ?_
      refine zB [(8, .bool false)] [] ?_
      refine zr ?_
      refine ablock_r ?_
      refine athen_r ?_
      obtain rfl := Option.some.inj h
      rw [← hd5 _ rfl] at ho4
      have h := ho4
      try simp only at h
      refine athen_r ?_
      refine ablock_r ?_
      refine athen_r ?_
      obtain rfl := Option.some.inj h
      exact zR [] [] []
     ·refine zB [(0, .sl (.int .i64) ranks), (2, .int .i64 most), (9, .int .i64 st1.1), (11, .int .i64 (there.getD st1.2.toNat 0)), (21, .sl (.int .i64) there), (22, .int .i64 (there.length : Int)), (23, .int .i64 st1.2), (34, .bool (decide ((ranks.length : Int) ≤ (there.getD st1.2.toNat 0))))] [] ?_
      refine zQ h (fun hb13 h => ?_) (fun hb13 h => ?_)
      ·refine zo ?_
       refine zB [(8, .bool false)] [] ?_
       refine zr ?_
       refine ablock_r ?_
       refine athen_r ?_
       obtain rfl := Option.some.inj h
       rw [← hd5 _ rfl] at ho4
       have h := ho4
       try simp only at h
       refine athen_r ?_
       refine ablock_r ?_
       refine athen_r ?_
       obtain rfl := Option.some.inj h
       exact zR [] [] []
      ·refine zk ?_
       refine AW.ops ?_
       obtain ⟨c14, h⟩ := ck_some.1 h
       obtain ⟨c15, h⟩ := ck_some.1 h
       refine zS 5 [(0, .sl (.int .i64) ranks), (2, .int .i64 most), (21, .sl (.int .i64) there), (22, .int .i64 (there.length : Int)), (23, .int .i64 st1.2), (35, .int .i64 st1.1), (39, .int .i64 (ranks.getD (there.getD st1.2.toNat 0).toNat 0))] [] ?_
       refine zA [(0, .sl (.int .i64) ranks), (2, .int .i64 most), (9, .int .i64 (max st1.1 (ranks.getD (there.getD st1.2.toNat 0).toNat 0))), (21, .sl (.int .i64) there), (22, .int .i64 (there.length : Int)), (23, .int .i64 st1.2)] [] ?_
       refine ablock_n ?_
       refine athen_n ?_
       refine AW.ops ?_
       obtain ⟨c16, h⟩ := ck_some.1 h
       refine zA [(0, .sl (.int .i64) ranks), (2, .int .i64 most), (9, .int .i64 (max st1.1 (ranks.getD (there.getD st1.2.toNat 0).toNat 0))), (21, .sl (.int .i64) there), (22, .int .i64 (there.length : Int)), (23, .int .i64 (st1.2 + 1))] [] ?_
       obtain rfl := Option.some.inj h
       exact ⟨_, rfl, zL [] [] []⟩
    ·refine AW.exit ?_
     refine athen_e ?_
     obtain rfl := Option.some.inj h
     rw [← hd5 _ rfl] at ho4
     have h := ho4
     try simp only at h
     refine athen_e ?_
     refine ablock_s ?_
     refine athen_n ?_
     exact AW.weaken (zL [] [] []) (hk_lineallaw07_top_k1 _ h)

end Go.Proofs.Yteclokkdgmacpaa
