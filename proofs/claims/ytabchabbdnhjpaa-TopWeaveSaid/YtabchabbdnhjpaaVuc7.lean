/-
  Made by wip/tool/dc.py out of the print of the program: contracts.
-/
import Derived.Test.YtabchabbdnhjpaaVp
import Derived.Test.YtabchabbdnhjpaaSh6
import Derived.Test.YtabchabbdnhjpaaAvd
import Derived.Test.YtabchabbdnhjpaaVuc1
import Derived.Test.YtabchabbdnhjpaaVuc2
import Derived.Test.YtabchabbdnhjpaaVuc5
import Derived.Test.YtabchabbdnhjpaaVuc6
namespace Go.Proofs.Ytabchabbdnhjpaa
open Go.RowKit

set_option linter.unusedSimpArgs false
set_option linter.unusedVariables false
set_option linter.constructorNameAsVariable false

set_option maxRecDepth 100000
set_option maxHeartbeats 2000000

theorem hc_weave_Common (l : Int × (List (Int × Int))) (w : List Int) (v0 : List Int) {r : (List Int) × Int} (h : weave_Common l w v0 = some r) : HC Try.prog 31 [] [.agg [.int .i64 l.1, .sl (.pair (.int .i64) (.int .i64)) l.2], .sl (.int .i64) w, .sl (.int .i64) v0] [] (.tup [.sl (.int .i64) r.1, .int .i64 r.2]) := by
 unfold weave_Common at h
 refine zH Try.func31 [.tmp 6, .tmp 7] 35 ?_
 refine zo ?_
 refine zB [(1, .sl (.int .i64) w), (2, .sl (.int .i64) v0), (3, .bp 3 0)] [(3, .box 24 [.int .i64 l.1, .sl (.pair (.int .i64) (.int .i64)) l.2])] ?_
 refine zo ?_
 refine zS 4 [(1, .sl (.int .i64) w), (2, .sl (.int .i64) v0), (14, .agg [.int .i64 l.1, .sl (.pair (.int .i64) (.int .i64)) l.2]), (17, .own 17)] [(17, .arr 25 (.sl (.int .i64)) [w, v0])] ?_
 obtain ⟨v0_2, hv1, h⟩ := Option.bind_eq_some_iff.1 h
 refine zC [17] [] (hc_weave_checked l [w, v0] hv1) [(1, .sl (.int .i64) w), (2, .sl (.int .i64) v0), (18, .tup [.agg (cellsX T53 v0_2.1), .int .i64 v0_2.2])] [] ?_
 refine zS 5 [(1, .sl (.int .i64) w), (2, .sl (.int .i64) v0), (8, .bp 8 0), (20, .int .i64 v0_2.2)] [(8, .box 53 (cellsX T53 v0_2.1))] ?_
 refine zB [(1, .sl (.int .i64) w), (2, .sl (.int .i64) v0), (8, .bp 8 0), (9, .int .i64 v0_2.2)] [(8, .box 53 (cellsX T53 v0_2.1))] ?_
 refine AW.seq ?_
 refine zo ?_
 refine zB [(1, .sl (.int .i64) w), (2, .sl (.int .i64) v0), (8, .bp 8 0), (9, .int .i64 v0_2.2), (22, .bool (!(decide (v0_2.2 = 0))))] [(8, .box 53 (cellsX T53 v0_2.1))] ?_
 refine zQ h (fun hb2 h => ?_) (fun hb2 h => ?_)
 ·refine zo ?_
  refine zB [(6, .cv (.slice none 0 0)), (7, .int .i64 v0_2.2)] [] ?_
  refine zr ?_
  obtain rfl := Option.some.inj h
  exact zR [] [] []
 ·refine zk ?_
  refine zo ?_
  refine zS 3 [(8, .bp 8 0), (25, .agg (cellsX T53 v0_2.1)), (26, .sl (.int .i64) w), (27, .sl (.int .i64) v0)] [(8, .box 53 (cellsX T53 v0_2.1))] ?_
  obtain ⟨v0_3, hv3, h⟩ := Option.bind_eq_some_iff.1 h
  refine zC [] [] (hc_weave_ties_split fuel v0_2.1 w v0 hv3) [(8, .bp 8 0), (28, .tup [.own 38000, .sl (.int .i64) v0_3.2.1, .sl (.int .i64) v0_3.2.2])] [(8, .box 53 (cellsX T53 v0_2.1)), (38000, .arr 3 (.int .i64) v0_3.1)] ?_
  refine zS 5 [(8, .bp 8 0), (10, .own 38000), (30, .sl (.int .i64) v0_3.2.1), (31, .sl (.int .i64) v0_3.2.2)] [(8, .box 53 (cellsX T53 v0_2.1)), (38000, .arr 3 (.int .i64) v0_3.1)] ?_
  refine zB [(8, .bp 8 0), (10, .own 38000)] [(8, .box 53 (cellsX T53 v0_2.1)), (38000, .arr 3 (.int .i64) v0_3.1)] ?_
  refine zo ?_
  refine zS 2 [(32, .agg (cellsX T53 v0_2.1)), (33, .own 38000)] [(38000, .arr 3 (.int .i64) v0_3.1)] ?_
  obtain ⟨v0_4, hv4, h⟩ := Option.bind_eq_some_iff.1 h
  refine zC [38000] [] (hc_weave_ties_first v0_2.1 v0_3.1 hv4) [(34, .sl (.int .i64) v0_4)] [] ?_
  refine zB [(6, .sl (.int .i64) v0_4), (7, .int .i64 0)] [] ?_
  refine AW.ret ?_
  obtain rfl := Option.some.inj h
  exact zR [] [] []

theorem hc_weave_ties_rest (t : (El T53)) (begin : List Int) (w : List Int) {r : (List Int) × Bool} (h : weave_ties_rest t begin w = some r) : HC Try.prog 54 [] [.agg (cellsX T53 t), .sl (.int .i64) begin, .sl (.int .i64) w] [] (.tup [.sl (.int .i64) r.1, .bool r.2]) := by
 unfold weave_ties_rest at h
 refine zH Try.func54 [.tmp 6, .tmp 7] 30 ?_
 refine zo ?_
 refine zB [(1, .sl (.int .i64) begin), (2, .sl (.int .i64) w), (3, .bp 3 0)] [(3, .box 53 (cellsX T53 t))] ?_
 refine AW.have1 (fun b1 : (List Int) => weave_ties_rest_k1 b1 = some r) (fun b1 => ⟨fr [(2, .sl (.int .i64) b1)], hpGet [], gt⟩) (fun b1 h => ?_) (fun hk_weave_ties_rest_k1 => ?_)
 ·as_aux_lemma =>
   unfold weave_ties_rest_k1 at h
   refine zo ?_
   refine zB [(6, .sl (.int .i64) b1), (7, .bool true)] [] ?_
   refine AW.ret ?_
   obtain rfl := Option.some.inj h
   exact zR [] [] []
 ·refine AW.seq ?_
  refine zo ?_
  refine zB [(2, .sl (.int .i64) w), (3, .bp 3 0), (12, .sl (.int .i64) begin), (13, .int .i64 (begin.length : Int)), (14, .int .i64 0)] [(3, .box 53 (cellsX T53 t))] ?_
  refine AW.block ?_
  obtain ⟨rv5, hw1, ho2⟩ := Option.bind_eq_some_iff.1 h
  refine AW.loopO (weave_ties_rest_b1 t begin) (fun st1 => ⟨fr [(2, .sl (.int .i64) st1.1), (3, .bp 3 0), (12, .sl (.int .i64) begin), (13, .int .i64 (begin.length : Int)), (14, .int .i64 st1.2)], hpGet [(3, .box 53 (cellsX T53 t))], gt⟩) (w, 0) hw1 (zL [] [] []) ?_
  as_aux_lemma =>
   intro st1 x4 h hd3
   unfold weave_ties_rest_b1 at h
   refine zo ?_
   refine zB [(2, .sl (.int .i64) st1.1), (3, .bp 3 0), (12, .sl (.int .i64) begin), (13, .int .i64 (begin.length : Int)), (14, .int .i64 st1.2), (15, .bool (decide (st1.2 < (begin.length : Int))))] [(3, .box 53 (cellsX T53 t))] ?_
   refine AW.seq ?_
   refine zQ h (fun hb6 h => ?_) (fun hb6 h => ?_)
   ·refine zk ?_
    refine AW.seq ?_
    refine AW.block ?_
    refine zo ?_
    obtain ⟨c7, h⟩ := ck_some.1 h
    obtain ⟨c8, h⟩ := ck_some.1 h
    refine zB [(2, .sl (.int .i64) st1.1), (3, .bp 3 0), (9, .int .i64 (begin.getD st1.2.toNat 0)), (12, .sl (.int .i64) begin), (13, .int .i64 (begin.length : Int)), (14, .int .i64 st1.2)] [(3, .box 53 (cellsX T53 t))] ?_
    refine zo ?_
    refine zS 3 [(3, .bp 3 0), (12, .sl (.int .i64) begin), (13, .int .i64 (begin.length : Int)), (14, .int .i64 st1.2), (19, .agg (cellsX T53 t)), (20, .sl (.int .i64) st1.1), (21, .int .i64 (begin.getD st1.2.toNat 0))] [(3, .box 53 (cellsX T53 t))] ?_
    obtain ⟨v0, hv9, h⟩ := Option.bind_eq_some_iff.1 h
    refine zC [] [] (hc_weave_ties_without t st1.1 (begin.getD st1.2.toNat 0) hv9) [(3, .bp 3 0), (12, .sl (.int .i64) begin), (13, .int .i64 (begin.length : Int)), (14, .int .i64 st1.2), (22, .tup [.own 32000, .bool v0.2])] [(3, .box 53 (cellsX T53 t)), (32000, .arr 3 (.int .i64) v0.1)] ?_
    refine zB [(3, .bp 3 0), (10, .own 32000), (11, .bool v0.2), (12, .sl (.int .i64) begin), (13, .int .i64 (begin.length : Int)), (14, .int .i64 st1.2)] [(3, .box 53 (cellsX T53 t)), (32000, .arr 3 (.int .i64) v0.1)] ?_
    refine AW.seq ?_
    refine zo ?_
    refine zB [(3, .bp 3 0), (10, .own 32000), (12, .sl (.int .i64) begin), (13, .int .i64 (begin.length : Int)), (14, .int .i64 st1.2), (26, .bool (!v0.2))] [(3, .box 53 (cellsX T53 t)), (32000, .arr 3 (.int .i64) v0.1)] ?_
    refine zQ h (fun hb10 h => ?_) (fun hb10 h => ?_)
    ·refine zo ?_
     refine zB [(6, .cv (.slice none 0 0)), (7, .bool false)] [] ?_
     refine zr ?_
     refine ablock_r ?_
     refine athen_r ?_
     obtain rfl := Option.some.inj h
     rw [← hd3 _ rfl] at ho2
     have h := ho2
     try simp only at h
     refine athen_r ?_
     refine ablock_r ?_
     refine athen_r ?_
     obtain rfl := Option.some.inj h
     exact zR [] [] []
    ·refine zk ?_
     refine AW.ops ?_
     refine zA [(2, .own 32000), (3, .bp 3 0), (12, .sl (.int .i64) begin), (13, .int .i64 (begin.length : Int)), (14, .int .i64 st1.2)] [(3, .box 53 (cellsX T53 t)), (32000, .arr 3 (.int .i64) v0.1)] ?_
     refine ablock_n ?_
     refine athen_n ?_
     refine AW.ops ?_
     obtain ⟨c11, h⟩ := ck_some.1 h
     refine zA [(2, .own 32000), (3, .bp 3 0), (12, .sl (.int .i64) begin), (13, .int .i64 (begin.length : Int)), (14, .int .i64 (st1.2 + 1))] [(3, .box 53 (cellsX T53 t)), (32000, .arr 3 (.int .i64) v0.1)] ?_
     obtain rfl := Option.some.inj h
     exact ⟨_, rfl, zL [32000] [] []⟩
   ·refine AW.exit ?_
    refine athen_e ?_
    obtain rfl := Option.some.inj h
    rw [← hd3 _ rfl] at ho2
    have h := ho2
    try simp only at h
    refine athen_e ?_
    refine ablock_s ?_
    refine athen_n ?_
    exact AW.weaken (zL [] [] []) (hk_weave_ties_rest_k1 _ h)

theorem hc_weave_Rest (l : Int × (List (Int × Int))) (u : List Int) (w : List Int) {r : (List Int) × Int} (h : weave_Rest l u w = some r) : HC Try.prog 32 [] [.agg [.int .i64 l.1, .sl (.pair (.int .i64) (.int .i64)) l.2], .sl (.int .i64) u, .sl (.int .i64) w] [] (.tup [.sl (.int .i64) r.1, .int .i64 r.2]) := by
 unfold weave_Rest at h
 refine zH Try.func32 [.tmp 6, .tmp 7] 35 ?_
 refine zo ?_
 refine zB [(1, .sl (.int .i64) u), (2, .sl (.int .i64) w), (3, .bp 3 0)] [(3, .box 24 [.int .i64 l.1, .sl (.pair (.int .i64) (.int .i64)) l.2])] ?_
 refine zo ?_
 refine zS 4 [(1, .sl (.int .i64) u), (2, .sl (.int .i64) w), (13, .agg [.int .i64 l.1, .sl (.pair (.int .i64) (.int .i64)) l.2]), (16, .own 16)] [(16, .arr 25 (.sl (.int .i64)) [u, w])] ?_
 obtain ⟨v0, hv1, h⟩ := Option.bind_eq_some_iff.1 h
 refine zC [16] [] (hc_weave_checked l [u, w] hv1) [(1, .sl (.int .i64) u), (2, .sl (.int .i64) w), (17, .tup [.agg (cellsX T53 v0.1), .int .i64 v0.2])] [] ?_
 refine zS 5 [(1, .sl (.int .i64) u), (2, .sl (.int .i64) w), (8, .bp 8 0), (19, .int .i64 v0.2)] [(8, .box 53 (cellsX T53 v0.1))] ?_
 refine zB [(1, .sl (.int .i64) u), (2, .sl (.int .i64) w), (8, .bp 8 0), (9, .int .i64 v0.2)] [(8, .box 53 (cellsX T53 v0.1))] ?_
 refine AW.seq ?_
 refine zo ?_
 refine zB [(1, .sl (.int .i64) u), (2, .sl (.int .i64) w), (8, .bp 8 0), (9, .int .i64 v0.2), (21, .bool (!(decide (v0.2 = 0))))] [(8, .box 53 (cellsX T53 v0.1))] ?_
 refine zQ h (fun hb2 h => ?_) (fun hb2 h => ?_)
 ·refine zo ?_
  refine zB [(6, .cv (.slice none 0 0)), (7, .int .i64 v0.2)] [] ?_
  refine zr ?_
  obtain rfl := Option.some.inj h
  exact zR [] [] []
 ·refine zk ?_
  refine zo ?_
  refine zS 3 [(8, .bp 8 0), (24, .agg (cellsX T53 v0.1)), (25, .sl (.int .i64) u), (26, .sl (.int .i64) w)] [(8, .box 53 (cellsX T53 v0.1))] ?_
  obtain ⟨v0_2, hv3, h⟩ := Option.bind_eq_some_iff.1 h
  refine zC [] [] (hc_weave_ties_rest v0.1 u w hv3) [(8, .bp 8 0), (27, .tup [.sl (.int .i64) v0_2.1, .bool v0_2.2])] [(8, .box 53 (cellsX T53 v0.1))] ?_
  refine zB [(8, .bp 8 0), (10, .sl (.int .i64) v0_2.1), (11, .bool v0_2.2)] [(8, .box 53 (cellsX T53 v0.1))] ?_
  refine AW.seq ?_
  refine zo ?_
  refine zB [(8, .bp 8 0), (10, .sl (.int .i64) v0_2.1), (31, .bool (!v0_2.2))] [(8, .box 53 (cellsX T53 v0.1))] ?_
  refine zQ h (fun hb4 h => ?_) (fun hb4 h => ?_)
  ·refine zo ?_
   refine zB [(6, .cv (.slice none 0 0)), (7, .int .i64 5)] [] ?_
   refine zr ?_
   obtain rfl := Option.some.inj h
   exact zR [] [] []
  ·refine zk ?_
   refine zo ?_
   refine zS 2 [(32, .agg (cellsX T53 v0.1)), (33, .sl (.int .i64) v0_2.1)] [] ?_
   obtain ⟨v0_3, hv5, h⟩ := Option.bind_eq_some_iff.1 h
   refine zC [] [] (hc_weave_ties_first v0.1 v0_2.1 hv5) [(34, .sl (.int .i64) v0_3)] [] ?_
   refine zB [(6, .sl (.int .i64) v0_3), (7, .int .i64 0)] [] ?_
   refine AW.ret ?_
   obtain rfl := Option.some.inj h
   exact zR [] [] []

theorem hc_weave_Joined (l : Int × (List (Int × Int))) (w : List Int) (v0 : List Int) {r : (List Int) × Int} (h : weave_Joined l w v0 = some r) : HC Try.prog 33 [] [.agg [.int .i64 l.1, .sl (.pair (.int .i64) (.int .i64)) l.2], .sl (.int .i64) w, .sl (.int .i64) v0] [] (.tup [.sl (.int .i64) r.1, .int .i64 r.2]) := by
 unfold weave_Joined at h
 refine zH Try.func33 [.tmp 6, .tmp 7] 33 ?_
 refine zo ?_
 refine zB [(1, .sl (.int .i64) w), (2, .sl (.int .i64) v0), (3, .bp 3 0)] [(3, .box 24 [.int .i64 l.1, .sl (.pair (.int .i64) (.int .i64)) l.2])] ?_
 refine zo ?_
 refine zS 4 [(1, .sl (.int .i64) w), (2, .sl (.int .i64) v0), (11, .agg [.int .i64 l.1, .sl (.pair (.int .i64) (.int .i64)) l.2]), (14, .own 14)] [(14, .arr 25 (.sl (.int .i64)) [w, v0])] ?_
 obtain ⟨v0_2, hv1, h⟩ := Option.bind_eq_some_iff.1 h
 refine zC [14] [] (hc_weave_checked l [w, v0] hv1) [(1, .sl (.int .i64) w), (2, .sl (.int .i64) v0), (15, .tup [.agg (cellsX T53 v0_2.1), .int .i64 v0_2.2])] [] ?_
 refine zS 5 [(1, .sl (.int .i64) w), (2, .sl (.int .i64) v0), (8, .bp 8 0), (17, .int .i64 v0_2.2)] [(8, .box 53 (cellsX T53 v0_2.1))] ?_
 refine zB [(1, .sl (.int .i64) w), (2, .sl (.int .i64) v0), (8, .bp 8 0), (9, .int .i64 v0_2.2)] [(8, .box 53 (cellsX T53 v0_2.1))] ?_
 refine AW.seq ?_
 refine zo ?_
 refine zB [(1, .sl (.int .i64) w), (2, .sl (.int .i64) v0), (8, .bp 8 0), (9, .int .i64 v0_2.2), (19, .bool (!(decide (v0_2.2 = 0))))] [(8, .box 53 (cellsX T53 v0_2.1))] ?_
 refine zQ h (fun hb2 h => ?_) (fun hb2 h => ?_)
 ·refine zo ?_
  refine zB [(6, .cv (.slice none 0 0)), (7, .int .i64 v0_2.2)] [] ?_
  refine zr ?_
  obtain rfl := Option.some.inj h
  exact zR [] [] []
 ·refine zk ?_
  refine AW.seq ?_
  refine zo ?_
  obtain ⟨c3, h⟩ := ck_some.1 h
  refine zS 5 [(1, .sl (.int .i64) w), (2, .sl (.int .i64) v0), (8, .bp 8 0), (25, .int .i64 ((w.length : Int) + (v0.length : Int)))] [(8, .box 53 (cellsX T53 v0_2.1))] ?_
  refine zB [(1, .sl (.int .i64) w), (2, .sl (.int .i64) v0), (8, .bp 8 0), (26, .bool (decide (10 < ((w.length : Int) + (v0.length : Int)))))] [(8, .box 53 (cellsX T53 v0_2.1))] ?_
  refine zQ h (fun hb4 h => ?_) (fun hb4 h => ?_)
  ·refine zo ?_
   refine zB [(6, .cv (.slice none 0 0)), (7, .int .i64 4)] [] ?_
   refine zr ?_
   obtain rfl := Option.some.inj h
   exact zR [] [] []
  ·refine zk ?_
   refine AW.seq ?_
   refine AW.draw tab_ok mixed_ok [(3, [30]), (4, [41000]), (5, [41000])] [(0, [8])] (by decide) (by kernel_rfl) ?_
   as_aux_lemma =>
    refine adops_cut 4 (fun K' hK5 => ?_)
    try dsimp only [List.drop_succ_cons, List.drop_zero, List.take_succ_cons, List.take_zero]
    simp only [go_sem, hb2, hb4]
    repeat with_reducible refine zN ?_
    refine hK5 _ ?_
    as_aux_lemma =>
     obtain ⟨v0_3, hv6, h⟩ := Option.bind_eq_some_iff.1 h
     refine adops.call (by first | trivial | rfl) rfl rfl rfl (fun _ h => h) [30] [] (hc_slices_Concat [w, v0] hv6) rfl (by (simp only [go_sem, hb2, hb4]) <;> (with_reducible and_intros) <;> first | assumption | rfl | omega | (unfold maxLen; omega)) (by (simp only [go_sem, hb2, hb4]) <;> (with_reducible and_intros) <;> first | assumption | rfl | omega | (unfold maxLen; omega)) rfl ?_
     obtain ⟨v0_4, hv7, h⟩ := Option.bind_eq_some_iff.1 h
     refine adops.call (by first | trivial | rfl) rfl rfl rfl (fun _ h => h) [41000] [] (hc_weave_ties_first v0_2.1 v0_3 hv7) rfl (by (simp only [go_sem, hb2, hb4]) <;> (with_reducible and_intros) <;> first | assumption | rfl | omega | (unfold maxLen; omega)) (by (simp only [go_sem, hb2, hb4]) <;> (with_reducible and_intros) <;> first | assumption | rfl | omega | (unfold maxLen; omega)) rfl ?_
     refine adops_cut 2 (fun K' hK8 => ?_)
     try dsimp only [List.drop_succ_cons, List.drop_zero, List.take_succ_cons, List.take_zero]
     simp only [go_sem, hb2, hb4]
     repeat with_reducible refine zN ?_
     refine hK8 _ ?_
     refine adops_nil ?_
     refine athen_n ?_
     refine zV [(6, .sl (.int .i64) v0_4), (7, .int .i64 0)] [] gt ?_
     as_aux_lemma =>
      refine AW.ret ?_
      obtain rfl := Option.some.inj h
      exact zR [] [] []

theorem hc_weave_Both (l : Int × (List (Int × Int))) (w : List Int) (v0 : List Int) {r : (List Int) × Int} (h : weave_Both l w v0 = some r) : HC Try.prog 34 [] [.agg [.int .i64 l.1, .sl (.pair (.int .i64) (.int .i64)) l.2], .sl (.int .i64) w, .sl (.int .i64) v0] [] (.tup [.sl (.int .i64) r.1, .int .i64 r.2]) := by
 unfold weave_Both at h
 refine zH Try.func34 [.tmp 6, .tmp 7] 61 ?_
 refine zo ?_
 refine zB [(1, .sl (.int .i64) w), (2, .sl (.int .i64) v0), (3, .bp 3 0)] [(3, .box 24 [.int .i64 l.1, .sl (.pair (.int .i64) (.int .i64)) l.2])] ?_
 refine zo ?_
 refine zS 4 [(1, .sl (.int .i64) w), (2, .sl (.int .i64) v0), (16, .agg [.int .i64 l.1, .sl (.pair (.int .i64) (.int .i64)) l.2]), (19, .own 19)] [(19, .arr 25 (.sl (.int .i64)) [w, v0])] ?_
 obtain ⟨v0_2, hv1, h⟩ := Option.bind_eq_some_iff.1 h
 refine zC [19] [] (hc_weave_checked l [w, v0] hv1) [(1, .sl (.int .i64) w), (2, .sl (.int .i64) v0), (20, .tup [.agg (cellsX T53 v0_2.1), .int .i64 v0_2.2])] [] ?_
 refine zS 5 [(1, .sl (.int .i64) w), (2, .sl (.int .i64) v0), (8, .bp 8 0), (22, .int .i64 v0_2.2)] [(8, .box 53 (cellsX T53 v0_2.1))] ?_
 refine zB [(1, .sl (.int .i64) w), (2, .sl (.int .i64) v0), (8, .bp 8 0), (9, .int .i64 v0_2.2)] [(8, .box 53 (cellsX T53 v0_2.1))] ?_
 refine AW.seq ?_
 refine zo ?_
 refine zB [(1, .sl (.int .i64) w), (2, .sl (.int .i64) v0), (8, .bp 8 0), (9, .int .i64 v0_2.2), (24, .bool (!(decide (v0_2.2 = 0))))] [(8, .box 53 (cellsX T53 v0_2.1))] ?_
 refine zQ h (fun hb2 h => ?_) (fun hb2 h => ?_)
 ·refine zo ?_
  refine zB [(6, .cv (.slice none 0 0)), (7, .int .i64 v0_2.2)] [] ?_
  refine zr ?_
  obtain rfl := Option.some.inj h
  exact zR [] [] []
 ·refine zk ?_
  refine zo ?_
  refine zS 3 [(8, .bp 8 0), (27, .agg (cellsX T53 v0_2.1)), (28, .sl (.int .i64) w), (29, .sl (.int .i64) v0)] [(8, .box 53 (cellsX T53 v0_2.1))] ?_
  obtain ⟨v0_3, hv3, h⟩ := Option.bind_eq_some_iff.1 h
  refine zC [] [] (hc_weave_ties_split fuel v0_2.1 w v0 hv3) [(8, .bp 8 0), (30, .tup [.own 40000, .sl (.int .i64) v0_3.2.1, .sl (.int .i64) v0_3.2.2])] [(8, .box 53 (cellsX T53 v0_2.1)), (40000, .arr 3 (.int .i64) v0_3.1)] ?_
  refine zS 5 [(8, .bp 8 0), (10, .own 40000), (32, .sl (.int .i64) v0_3.2.1), (33, .sl (.int .i64) v0_3.2.2)] [(8, .box 53 (cellsX T53 v0_2.1)), (40000, .arr 3 (.int .i64) v0_3.1)] ?_
  refine zB [(8, .bp 8 0), (10, .own 40000), (11, .sl (.int .i64) v0_3.2.1), (12, .sl (.int .i64) v0_3.2.2)] [(8, .box 53 (cellsX T53 v0_2.1)), (40000, .arr 3 (.int .i64) v0_3.1)] ?_
  refine AW.have1 (fun _ : Unit => weave_Both_k1 v0_2 v0_3 = some r) (fun _ => ⟨fr [(8, .bp 8 0), (10, .own 40000), (11, .sl (.int .i64) v0_3.2.1), (12, .sl (.int .i64) v0_3.2.2)], hpGet [(8, .box 53 (cellsX T53 v0_2.1)), (40000, .arr 3 (.int .i64) v0_3.1)], gt⟩) (fun _ h => ?_) (fun hk_weave_Both_k1 => ?_)
  ·as_aux_lemma =>
    unfold weave_Both_k1 at h
    refine AW.seq ?_
    refine zo ?_
    obtain ⟨c4, h⟩ := ck_some.1 h
    refine zS 5 [(8, .bp 8 0), (10, .own 40000), (11, .sl (.int .i64) v0_3.2.1), (12, .sl (.int .i64) v0_3.2.2), (49, .int .i64 ((v0_3.1.length : Int) + (v0_3.2.1.length : Int)))] [(8, .box 53 (cellsX T53 v0_2.1)), (40000, .arr 3 (.int .i64) v0_3.1)] ?_
    obtain ⟨c5, h⟩ := ck_some.1 h
    refine zB [(8, .bp 8 0), (10, .own 40000), (11, .sl (.int .i64) v0_3.2.1), (12, .sl (.int .i64) v0_3.2.2), (53, .bool (decide (10 < (((v0_3.1.length : Int) + (v0_3.2.1.length : Int)) + (v0_3.2.2.length : Int)))))] [(8, .box 53 (cellsX T53 v0_2.1)), (40000, .arr 3 (.int .i64) v0_3.1)] ?_
    refine zQ h (fun hb6 h => ?_) (fun hb6 h => ?_)
    ·refine zo ?_
     refine zB [(6, .cv (.slice none 0 0)), (7, .int .i64 4)] [] ?_
     refine zr ?_
     obtain rfl := Option.some.inj h
     exact zR [] [] []
    ·refine zk ?_
     refine AW.seq ?_
     refine AW.draw tab_ok mixed_ok [(4, [58, 40000]), (5, [69000]), (6, [69000])] [(0, [8])] (by decide) (lex_fast (by kernel_rfl)) ?_
     as_aux_lemma =>
      refine adops_cut 5 (fun K' hK7 => ?_)
      try dsimp only [List.drop_succ_cons, List.drop_zero, List.take_succ_cons, List.take_zero]
      simp only [go_sem, hb2, hb6]
      repeat with_reducible refine zN ?_
      refine hK7 _ ?_
      as_aux_lemma =>
       obtain ⟨v0_5, hv8, h⟩ := Option.bind_eq_some_iff.1 h
       refine adops.call (by first | trivial | rfl) rfl rfl rfl (fun _ h => h) [58] [] (hc_slices_Concat [v0_3.1, v0_3.2.1, v0_3.2.2] hv8) rfl (by (simp only [go_sem, hb2, hb6]) <;> (with_reducible and_intros) <;> first | assumption | rfl | omega | (unfold maxLen; omega)) (by (simp only [go_sem, hb2, hb6]) <;> (with_reducible and_intros) <;> first | assumption | rfl | omega | (unfold maxLen; omega)) rfl ?_
       obtain ⟨v0_6, hv9, h⟩ := Option.bind_eq_some_iff.1 h
       refine adops.call (by first | trivial | rfl) rfl rfl rfl (fun _ h => h) [69000] [] (hc_weave_ties_first v0_2.1 v0_5 hv9) rfl (by (simp only [go_sem, hb2, hb6]) <;> (with_reducible and_intros) <;> first | assumption | rfl | omega | (unfold maxLen; omega)) (by (simp only [go_sem, hb2, hb6]) <;> (with_reducible and_intros) <;> first | assumption | rfl | omega | (unfold maxLen; omega)) rfl ?_
       refine adops_cut 2 (fun K' hK10 => ?_)
       try dsimp only [List.drop_succ_cons, List.drop_zero, List.take_succ_cons, List.take_zero]
       simp only [go_sem, hb2, hb6]
       repeat with_reducible refine zN ?_
       refine hK10 _ ?_
       refine adops_nil ?_
       refine athen_n ?_
       refine zV [(6, .sl (.int .i64) v0_6), (7, .int .i64 0)] [] gt ?_
       as_aux_lemma =>
        refine AW.ret ?_
        obtain rfl := Option.some.inj h
        exact zR [] [] []
  ·refine AW.seq ?_
   refine zo ?_
   refine zB [(8, .bp 8 0), (10, .own 40000), (11, .sl (.int .i64) v0_3.2.1), (12, .sl (.int .i64) v0_3.2.2), (34, .sl (.int .i64) v0_3.2.1), (35, .int .i64 (v0_3.2.1.length : Int)), (36, .int .i64 0)] [(8, .box 53 (cellsX T53 v0_2.1)), (40000, .arr 3 (.int .i64) v0_3.1)] ?_
   refine AW.block ?_
   obtain ⟨rv15, hw11, ho12⟩ := Option.bind_eq_some_iff.1 h
   refine AW.loopO (weave_Both_b1 v0_2 v0_3) (fun st1 => ⟨fr [(8, .bp 8 0), (10, .own 40000), (11, .sl (.int .i64) v0_3.2.1), (12, .sl (.int .i64) v0_3.2.2), (34, .sl (.int .i64) v0_3.2.1), (35, .int .i64 (v0_3.2.1.length : Int)), (36, .int .i64 st1)], hpGet [(8, .box 53 (cellsX T53 v0_2.1)), (40000, .arr 3 (.int .i64) v0_3.1)], gt⟩) 0 hw11 (zL [] [] []) ?_
   as_aux_lemma =>
    intro st1 x14 h hd13
    unfold weave_Both_b1 at h
    refine zo ?_
    refine zB [(8, .bp 8 0), (10, .own 40000), (11, .sl (.int .i64) v0_3.2.1), (12, .sl (.int .i64) v0_3.2.2), (34, .sl (.int .i64) v0_3.2.1), (35, .int .i64 (v0_3.2.1.length : Int)), (36, .int .i64 st1), (37, .bool (decide (st1 < (v0_3.2.1.length : Int))))] [(8, .box 53 (cellsX T53 v0_2.1)), (40000, .arr 3 (.int .i64) v0_3.1)] ?_
    refine AW.seq ?_
    refine zQ h (fun hb16 h => ?_) (fun hb16 h => ?_)
    ·refine zk ?_
     refine AW.seq ?_
     refine AW.block ?_
     refine zo ?_
     obtain ⟨c17, h⟩ := ck_some.1 h
     obtain ⟨c18, h⟩ := ck_some.1 h
     refine zB [(8, .bp 8 0), (10, .own 40000), (11, .sl (.int .i64) v0_3.2.1), (12, .sl (.int .i64) v0_3.2.2), (14, .int .i64 (v0_3.2.1.getD st1.toNat 0)), (34, .sl (.int .i64) v0_3.2.1), (35, .int .i64 (v0_3.2.1.length : Int)), (36, .int .i64 st1)] [(8, .box 53 (cellsX T53 v0_2.1)), (40000, .arr 3 (.int .i64) v0_3.1)] ?_
     refine zo ?_
     refine zS 3 [(8, .bp 8 0), (10, .own 40000), (11, .sl (.int .i64) v0_3.2.1), (12, .sl (.int .i64) v0_3.2.2), (34, .sl (.int .i64) v0_3.2.1), (35, .int .i64 (v0_3.2.1.length : Int)), (36, .int .i64 st1), (40, .agg (cellsX T53 v0_2.1)), (41, .int .i64 (v0_3.2.1.getD st1.toNat 0)), (42, .sl (.int .i64) v0_3.2.2)] [(8, .box 53 (cellsX T53 v0_2.1)), (40000, .arr 3 (.int .i64) v0_3.1)] ?_
     obtain ⟨v0_4, hv19, h⟩ := Option.bind_eq_some_iff.1 h
     refine zC [] [] (hc_weave_ties_onAny v0_2.1 (v0_3.2.1.getD st1.toNat 0) v0_3.2.2 hv19) [(8, .bp 8 0), (10, .own 40000), (11, .sl (.int .i64) v0_3.2.1), (12, .sl (.int .i64) v0_3.2.2), (34, .sl (.int .i64) v0_3.2.1), (35, .int .i64 (v0_3.2.1.length : Int)), (36, .int .i64 st1), (43, .bool v0_4)] [(8, .box 53 (cellsX T53 v0_2.1)), (40000, .arr 3 (.int .i64) v0_3.1)] ?_
     refine zB [(8, .bp 8 0), (10, .own 40000), (11, .sl (.int .i64) v0_3.2.1), (12, .sl (.int .i64) v0_3.2.2), (34, .sl (.int .i64) v0_3.2.1), (35, .int .i64 (v0_3.2.1.length : Int)), (36, .int .i64 st1), (43, .bool v0_4)] [(8, .box 53 (cellsX T53 v0_2.1)), (40000, .arr 3 (.int .i64) v0_3.1)] ?_
     refine zQ h (fun hb20 h => ?_) (fun hb20 h => ?_)
     ·refine zo ?_
      refine zB [(6, .cv (.slice none 0 0)), (7, .int .i64 5)] [] ?_
      refine AW.ret ?_
      refine ablock_r ?_
      refine athen_r ?_
      obtain rfl := Option.some.inj h
      rw [← hd13 _ rfl] at ho12
      have h := ho12
      try simp only at h
      refine athen_r ?_
      refine ablock_r ?_
      refine athen_r ?_
      obtain rfl := Option.some.inj h
      exact zR [] [] []
     ·refine zm ?_
      refine athen_n ?_
      refine AW.ops ?_
      obtain ⟨c21, h⟩ := ck_some.1 h
      refine zA [(8, .bp 8 0), (10, .own 40000), (11, .sl (.int .i64) v0_3.2.1), (12, .sl (.int .i64) v0_3.2.2), (34, .sl (.int .i64) v0_3.2.1), (35, .int .i64 (v0_3.2.1.length : Int)), (36, .int .i64 (st1 + 1))] [(8, .box 53 (cellsX T53 v0_2.1)), (40000, .arr 3 (.int .i64) v0_3.1)] ?_
      obtain rfl := Option.some.inj h
      exact ⟨_, rfl, zL [] [] []⟩
    ·refine AW.exit ?_
     refine athen_e ?_
     obtain rfl := Option.some.inj h
     rw [← hd13 _ rfl] at ho12
     have h := ho12
     try simp only at h
     refine athen_e ?_
     refine ablock_s ?_
     refine athen_n ?_
     exact AW.weaken (zL [] [] []) (hk_weave_Both_k1 () h)

end Go.Proofs.Ytabchabbdnhjpaa
