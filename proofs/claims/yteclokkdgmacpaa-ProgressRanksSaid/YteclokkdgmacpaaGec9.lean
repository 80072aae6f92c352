/-
  Made by wip/tool/dc.py out of the print of the program: contracts.
-/
import Derived.Test.YteclokkdgmacpaaGrp
import Derived.Test.YteclokkdgmacpaaSh7
import Derived.Test.YteclokkdgmacpaaGec1
import Derived.Test.YteclokkdgmacpaaGec2
import Derived.Test.YteclokkdgmacpaaGec4
import Derived.Test.YteclokkdgmacpaaGec5
import Derived.Test.YteclokkdgmacpaaGec6
import Derived.Test.YteclokkdgmacpaaGec8
namespace Go.Proofs.Yteclokkdgmacpaa
open Go.RowKit

set_option linter.unusedSimpArgs false
set_option linter.unusedVariables false
set_option linter.constructorNameAsVariable false

set_option maxRecDepth 100000
set_option maxHeartbeats 2000000

theorem hc_linealref07_Holds (g : Int × (List (Int × Int × Int × Bool))) (claim : Int) (thread : Int) {r : Bool × Int} (h : linealref07_Holds g claim thread = some r) : HC Try.prog 30 [] [.agg [.int .i64 g.1, .sl (.pair (.int .i64) (.pair (.int .i64) (.pair (.int .i64) .bool))) g.2], .int .i64 claim, .int .i64 thread] [] (.tup [.bool r.1, .int .i64 r.2]) := by
 unfold linealref07_Holds at h
 refine zH Try.func30 [.tmp 6, .tmp 7] 26 ?_
 refine zo ?_
 refine zB [(1, .int .i64 claim), (2, .int .i64 thread), (3, .bp 3 0)] [(3, .box 24 [.int .i64 g.1, .sl (.pair (.int .i64) (.pair (.int .i64) (.pair (.int .i64) .bool))) g.2])] ?_
 refine AW.seq ?_
 refine zo ?_
 refine zS 3 [(1, .int .i64 claim), (2, .int .i64 thread), (3, .bp 3 0), (11, .agg [.int .i64 g.1, .sl (.pair (.int .i64) (.pair (.int .i64) (.pair (.int .i64) .bool))) g.2]), (12, .int .i64 claim), (13, .int .i64 thread)] [(3, .box 24 [.int .i64 g.1, .sl (.pair (.int .i64) (.pair (.int .i64) (.pair (.int .i64) .bool))) g.2])] ?_
 obtain ⟨v0, hv1, h⟩ := Option.bind_eq_some_iff.1 h
 refine zC [] [] (hc_linealref07_asked g claim thread hv1) [(1, .int .i64 claim), (2, .int .i64 thread), (3, .bp 3 0), (14, .int .i64 v0)] [(3, .box 24 [.int .i64 g.1, .sl (.pair (.int .i64) (.pair (.int .i64) (.pair (.int .i64) .bool))) g.2])] ?_
 refine zB [(1, .int .i64 claim), (2, .int .i64 thread), (3, .bp 3 0), (8, .int .i64 v0)] [(3, .box 24 [.int .i64 g.1, .sl (.pair (.int .i64) (.pair (.int .i64) (.pair (.int .i64) .bool))) g.2])] ?_
 refine zo ?_
 refine zB [(1, .int .i64 claim), (2, .int .i64 thread), (3, .bp 3 0), (8, .int .i64 v0), (16, .bool (!(decide (v0 = 0))))] [(3, .box 24 [.int .i64 g.1, .sl (.pair (.int .i64) (.pair (.int .i64) (.pair (.int .i64) .bool))) g.2])] ?_
 refine zQ h (fun hb2 h => ?_) (fun hb2 h => ?_)
 ·refine zo ?_
  refine zB [(6, .bool false), (7, .int .i64 v0)] [] ?_
  refine zr ?_
  obtain rfl := Option.some.inj h
  exact zR [] [] []
 ·refine zk ?_
  refine zo ?_
  refine zS 3 [(19, .agg [.int .i64 g.1, .sl (.pair (.int .i64) (.pair (.int .i64) (.pair (.int .i64) .bool))) g.2]), (20, .int .i64 claim), (21, .int .i64 thread)] [] ?_
  obtain ⟨v0_2, hv3, h⟩ := Option.bind_eq_some_iff.1 h
  refine zC [] [] (hc_linealref07_ranks g claim thread hv3) [(22, .tup [.own 32000, .bool v0_2.2])] [(32000, .arr 3 (.int .i64) v0_2.1)] ?_
  refine zB [(10, .bool v0_2.2)] [] ?_
  refine zo ?_
  refine zB [(6, .bool v0_2.2), (7, .int .i64 0)] [] ?_
  refine AW.ret ?_
  obtain rfl := Option.some.inj h
  exact zR [] [] []

theorem hc_linealref07_Ranks (g : Int × (List (Int × Int × Int × Bool))) (claim : Int) (thread : Int) {r : (List Int) × Int} (h : linealref07_Ranks g claim thread = some r) : HC Try.prog 32 [] [.agg [.int .i64 g.1, .sl (.pair (.int .i64) (.pair (.int .i64) (.pair (.int .i64) .bool))) g.2], .int .i64 claim, .int .i64 thread] [(2000, .arr 3 (.int .i64) r.1)] (.tup [.own 2000, .int .i64 r.2]) := by
 unfold linealref07_Ranks at h
 refine zH Try.func32 [.tmp 6, .tmp 7] 28 ?_
 refine zo ?_
 refine zB [(1, .int .i64 claim), (2, .int .i64 thread), (3, .bp 3 0)] [(3, .box 24 [.int .i64 g.1, .sl (.pair (.int .i64) (.pair (.int .i64) (.pair (.int .i64) .bool))) g.2])] ?_
 refine AW.seq ?_
 refine zo ?_
 refine zS 3 [(1, .int .i64 claim), (2, .int .i64 thread), (3, .bp 3 0), (11, .agg [.int .i64 g.1, .sl (.pair (.int .i64) (.pair (.int .i64) (.pair (.int .i64) .bool))) g.2]), (12, .int .i64 claim), (13, .int .i64 thread)] [(3, .box 24 [.int .i64 g.1, .sl (.pair (.int .i64) (.pair (.int .i64) (.pair (.int .i64) .bool))) g.2])] ?_
 obtain ⟨v0, hv1, h⟩ := Option.bind_eq_some_iff.1 h
 refine zC [] [] (hc_linealref07_asked g claim thread hv1) [(1, .int .i64 claim), (2, .int .i64 thread), (3, .bp 3 0), (14, .int .i64 v0)] [(3, .box 24 [.int .i64 g.1, .sl (.pair (.int .i64) (.pair (.int .i64) (.pair (.int .i64) .bool))) g.2])] ?_
 refine zB [(1, .int .i64 claim), (2, .int .i64 thread), (3, .bp 3 0), (8, .int .i64 v0)] [(3, .box 24 [.int .i64 g.1, .sl (.pair (.int .i64) (.pair (.int .i64) (.pair (.int .i64) .bool))) g.2])] ?_
 refine zo ?_
 refine zB [(1, .int .i64 claim), (2, .int .i64 thread), (3, .bp 3 0), (8, .int .i64 v0), (16, .bool (!(decide (v0 = 0))))] [(3, .box 24 [.int .i64 g.1, .sl (.pair (.int .i64) (.pair (.int .i64) (.pair (.int .i64) .bool))) g.2])] ?_
 refine zQ h (fun hb2 h => ?_) (fun hb2 h => ?_)
 ·refine zo ?_
  refine zB [(6, .cv (.slice none 0 0)), (7, .int .i64 v0)] [] ?_
  refine zr ?_
  obtain rfl := Option.some.inj h
  exact zR [] [2000] []
 ·refine zk ?_
  refine zo ?_
  refine zS 3 [(19, .agg [.int .i64 g.1, .sl (.pair (.int .i64) (.pair (.int .i64) (.pair (.int .i64) .bool))) g.2]), (20, .int .i64 claim), (21, .int .i64 thread)] [] ?_
  obtain ⟨v0_2, hv3, h⟩ := Option.bind_eq_some_iff.1 h
  refine zC [] [] (hc_linealref07_ranks g claim thread hv3) [(22, .tup [.own 32000, .bool v0_2.2])] [(32000, .arr 3 (.int .i64) v0_2.1)] ?_
  refine zB [(9, .own 32000), (10, .bool v0_2.2)] [(32000, .arr 3 (.int .i64) v0_2.1)] ?_
  refine AW.seq ?_
  refine zo ?_
  refine zB [(9, .own 32000), (26, .bool (!v0_2.2))] [(32000, .arr 3 (.int .i64) v0_2.1)] ?_
  refine zQ h (fun hb4 h => ?_) (fun hb4 h => ?_)
  ·refine zo ?_
   refine zB [(6, .cv (.slice none 0 0)), (7, .int .i64 5)] [] ?_
   refine zr ?_
   obtain rfl := Option.some.inj h
   exact zR [] [2000] []
  ·refine zk ?_
   refine zo ?_
   refine zB [(6, .own 32000), (7, .int .i64 0)] [(32000, .arr 3 (.int .i64) v0_2.1)] ?_
   refine AW.ret ?_
   obtain rfl := Option.some.inj h
   exact zR [] [] [(2000, 32000)]

theorem hc_progress_statement_isRanks_1 (rank : Int) {r : Bool} (h : progress_statement_isRanks_1 rank = some r) : HC Try.prog 98 [] [.int .i64 rank] [] (.bool r) := by
 unfold progress_statement_isRanks_1 at h
 refine zH Try.func98 [.tmp 2] 6 ?_
 refine zo ?_
 refine zB [(0, .int .i64 rank)] [] ?_
 refine zo ?_
 refine zS 1 [(3, .int .i64 rank)] [] ?_
 obtain ⟨v0, hv1, h⟩ := Option.bind_eq_some_iff.1 h
 refine zC [] [] (hc_progress_isBelow rank 101 hv1) [(4, .bool v0)] [] ?_
 refine zB [(2, .bool (!v0))] [] ?_
 refine AW.ret ?_
 obtain rfl := Option.some.inj h
 exact zR [] [] []

theorem hc_slices_IndexFunc_7 (s : List Int) {r : Int} (h : slices_IndexFunc_7 s = some r) : HC Try.prog 93 [] [.sl (.int .i64) s, .fn (.func 98) [] []] [] (.int .i64 r) := by
 unfold slices_IndexFunc_7 at h
 refine zH Try.func93 [.tmp 4] 19 ?_
 refine zo ?_
 refine zB [(0, .sl (.int .i64) s), (1, .fn (.func 98) [] [])] [] ?_
 refine AW.have1 (fun _ : Unit => slices_IndexFunc_7_k1 = some r) (fun _ => ⟨fr [], hpGet [], gt⟩) (fun _ h => ?_) (fun hk_slices_IndexFunc_7_k1 => ?_)
 ·as_aux_lemma =>
   unfold slices_IndexFunc_7_k1 at h
   refine zo ?_
   refine zB [(4, .int .i64 (-1))] [] ?_
   refine AW.ret ?_
   obtain rfl := Option.some.inj h
   exact zR [] [] []
 ·refine AW.seq ?_
  refine zo ?_
  refine zB [(0, .sl (.int .i64) s), (1, .fn (.func 98) [] []), (7, .int .i64 (s.length : Int)), (8, .int .i64 0)] [] ?_
  refine AW.block ?_
  obtain ⟨rv5, hw1, ho2⟩ := Option.bind_eq_some_iff.1 h
  refine AW.loopO (slices_IndexFunc_7_b1 s) (fun st1 => ⟨fr [(0, .sl (.int .i64) s), (1, .fn (.func 98) [] []), (7, .int .i64 (s.length : Int)), (8, .int .i64 st1)], hpGet [], gt⟩) 0 hw1 (zL [] [] []) ?_
  as_aux_lemma =>
   intro st1 x4 h hd3
   unfold slices_IndexFunc_7_b1 at h
   refine zo ?_
   refine zB [(0, .sl (.int .i64) s), (1, .fn (.func 98) [] []), (7, .int .i64 (s.length : Int)), (8, .int .i64 st1), (9, .bool (decide (st1 < (s.length : Int))))] [] ?_
   refine AW.seq ?_
   refine zQ h (fun hb6 h => ?_) (fun hb6 h => ?_)
   ·refine zk ?_
    refine AW.seq ?_
    refine AW.block ?_
    refine zo ?_
    refine zB [(0, .sl (.int .i64) s), (1, .fn (.func 98) [] []), (5, .int .i64 st1), (7, .int .i64 (s.length : Int)), (8, .int .i64 st1)] [] ?_
    refine zo ?_
    obtain ⟨c7, h⟩ := ck_some.1 h
    obtain ⟨c8, h⟩ := ck_some.1 h
    refine zS 5 [(0, .sl (.int .i64) s), (1, .fn (.func 98) [] []), (5, .int .i64 st1), (7, .int .i64 (s.length : Int)), (8, .int .i64 st1), (11, .fn (.func 98) [] []), (15, .int .i64 (s.getD st1.toNat 0))] [] ?_
    obtain ⟨v0, hv9, h⟩ := Option.bind_eq_some_iff.1 h
    refine zC [] [] (hc_progress_statement_isRanks_1 (s.getD st1.toNat 0) hv9) [(0, .sl (.int .i64) s), (1, .fn (.func 98) [] []), (5, .int .i64 st1), (7, .int .i64 (s.length : Int)), (8, .int .i64 st1), (16, .bool v0)] [] ?_
    refine zB [(0, .sl (.int .i64) s), (1, .fn (.func 98) [] []), (5, .int .i64 st1), (7, .int .i64 (s.length : Int)), (8, .int .i64 st1), (16, .bool v0)] [] ?_
    refine zQ h (fun hb10 h => ?_) (fun hb10 h => ?_)
    ·refine zo ?_
     refine zB [(4, .int .i64 st1)] [] ?_
     refine AW.ret ?_
     refine ablock_r ?_
     refine athen_r ?_
     obtain rfl := Option.some.inj h
     rw [← hd3 _ rfl] at ho2
     have h := ho2
     try simp only at h
     refine athen_r ?_
     refine ablock_r ?_
     refine athen_r ?_
     obtain rfl := Option.some.inj h
     exact zR [] [] []
    ·refine zm ?_
     refine athen_n ?_
     refine AW.ops ?_
     obtain ⟨c11, h⟩ := ck_some.1 h
     refine zA [(0, .sl (.int .i64) s), (1, .fn (.func 98) [] []), (7, .int .i64 (s.length : Int)), (8, .int .i64 (st1 + 1))] [] ?_
     obtain rfl := Option.some.inj h
     exact ⟨_, rfl, zL [] [] []⟩
   ·refine AW.exit ?_
    refine athen_e ?_
    obtain rfl := Option.some.inj h
    rw [← hd3 _ rfl] at ho2
    have h := ho2
    try simp only at h
    refine athen_e ?_
    refine ablock_s ?_
    refine athen_n ?_
    exact AW.weaken (zL [] [] []) (hk_slices_IndexFunc_7_k1 () h)

theorem hc_slices_ContainsFunc_2 (s : List Int) {r : Bool} (h : slices_ContainsFunc_2 s = some r) : HC Try.prog 99 [] [.sl (.int .i64) s, .fn (.func 98) [] []] [] (.bool r) := by
 unfold slices_ContainsFunc_2 at h
 refine zH Try.func99 [.tmp 4] 9 ?_
 refine zo ?_
 refine zB [(0, .sl (.int .i64) s), (1, .fn (.func 98) [] [])] [] ?_
 refine zo ?_
 refine zS 2 [(5, .sl (.int .i64) s), (6, .fn (.func 98) [] [])] [] ?_
 obtain ⟨v0, hv1, h⟩ := Option.bind_eq_some_iff.1 h
 refine zC [] [] (hc_slices_IndexFunc_7 s hv1) [(7, .int .i64 v0)] [] ?_
 refine zB [(4, .bool (decide (0 ≤ v0)))] [] ?_
 refine AW.ret ?_
 obtain rfl := Option.some.inj h
 exact zR [] [] []

theorem hc_progress_statement_isRanks (s : Int) (s_2 : List (Int × Int × Int × Bool)) (list : List Int) {r : Bool} (h : progress_statement_isRanks s s_2 list = some r) : HC Try.prog 75 [] [.agg [.int .i64 s, .sl (.pair (.int .i64) (.pair (.int .i64) (.pair (.int .i64) .bool))) s_2, .fn (.func 94) [] [], .fn (.func 94) [] []], .sl (.int .i64) list] [] (.bool r) := by
 unfold progress_statement_isRanks at h
 refine zH Try.func75 [.tmp 4] 18 ?_
 refine zo ?_
 refine zB [(1, .sl (.int .i64) list), (2, .bp 2 0)] [(2, .box 85 [.int .i64 s, .sl (.pair (.int .i64) (.pair (.int .i64) (.pair (.int .i64) .bool))) s_2, .fn (.func 94) [] [], .fn (.func 94) [] []])] ?_
 refine zo ?_
 refine zB [(1, .sl (.int .i64) list), (2, .bp 2 0), (5, .fn (.func 98) [] [])] [(2, .box 85 [.int .i64 s, .sl (.pair (.int .i64) (.pair (.int .i64) (.pair (.int .i64) .bool))) s_2, .fn (.func 94) [] [], .fn (.func 94) [] []])] ?_
 refine zo ?_
 refine zS 5 [(1, .sl (.int .i64) list), (5, .fn (.func 98) [] []), (7, .int .i64 (list.length : Int)), (10, .int .i64 s)] [] ?_
 refine zS 2 [(1, .sl (.int .i64) list), (5, .fn (.func 98) [] []), (12, .bool (decide ((list.length : Int) = s)))] [] ?_
 rcases zI h with ⟨hb1, h⟩ | ⟨hb1, h⟩
 ·refine zS 2 [(12, .bool true), (13, .sl (.int .i64) list), (14, .fn (.func 98) [] [])] [] ?_
  obtain ⟨v0, hv2, h⟩ := Option.bind_eq_some_iff.1 h
  refine zG [] [] (hc_slices_ContainsFunc_2 list hv2) [(12, .bool true), (15, .bool v0)] [] ?_
  refine zB [(4, .bool (!v0))] [] ?_
  refine AW.ret ?_
  obtain rfl := Option.some.inj h
  exact zR [] [] []
 ·refine zS 4 [(12, .bool false), (16, .cv (undef))] [] ?_
  refine zB [(4, .bool false)] [] ?_
  refine AW.ret ?_
  obtain rfl := Option.some.inj h
  exact zR [] [] []

theorem hc_progress_statement_isRanks_2 (s : Int) (s_2 : List (Int × Int × Int × Bool)) (c0 : Int) (c0_2 : Int) (list : List Int) {r : Bool} (h : progress_statement_isRanks_2 s s_2 c0 c0_2 list = some r) : HC Try.prog 75 [] [.agg [.int .i64 s, .sl (.pair (.int .i64) (.pair (.int .i64) (.pair (.int .i64) .bool))) s_2, .fn (.func 96) [] [.dp (.int .i64) c0 0], .fn (.func 95) [] [.dp (.int .i64) c0_2 0]], .sl (.int .i64) list] [] (.bool r) := by
 unfold progress_statement_isRanks_2 at h
 refine zH Try.func75 [.tmp 4] 18 ?_
 refine zo ?_
 refine zB [(1, .sl (.int .i64) list), (2, .bp 2 0)] [(2, .box 85 [.int .i64 s, .sl (.pair (.int .i64) (.pair (.int .i64) (.pair (.int .i64) .bool))) s_2, .fn (.func 96) [] [.dp (.int .i64) c0 0], .fn (.func 95) [] [.dp (.int .i64) c0_2 0]])] ?_
 refine zo ?_
 refine zB [(1, .sl (.int .i64) list), (2, .bp 2 0), (5, .fn (.func 98) [] [])] [(2, .box 85 [.int .i64 s, .sl (.pair (.int .i64) (.pair (.int .i64) (.pair (.int .i64) .bool))) s_2, .fn (.func 96) [] [.dp (.int .i64) c0 0], .fn (.func 95) [] [.dp (.int .i64) c0_2 0]])] ?_
 refine zo ?_
 refine zS 5 [(1, .sl (.int .i64) list), (5, .fn (.func 98) [] []), (7, .int .i64 (list.length : Int)), (10, .int .i64 s)] [] ?_
 refine zS 2 [(1, .sl (.int .i64) list), (5, .fn (.func 98) [] []), (12, .bool (decide ((list.length : Int) = s)))] [] ?_
 rcases zI h with ⟨hb1, h⟩ | ⟨hb1, h⟩
 ·refine zS 2 [(12, .bool true), (13, .sl (.int .i64) list), (14, .fn (.func 98) [] [])] [] ?_
  obtain ⟨v0, hv2, h⟩ := Option.bind_eq_some_iff.1 h
  refine zG [] [] (hc_slices_ContainsFunc_2 list hv2) [(12, .bool true), (15, .bool v0)] [] ?_
  refine zB [(4, .bool (!v0))] [] ?_
  refine AW.ret ?_
  obtain rfl := Option.some.inj h
  exact zR [] [] []
 ·refine zS 4 [(12, .bool false), (16, .cv (undef))] [] ?_
  refine zB [(4, .bool false)] [] ?_
  refine AW.ret ?_
  obtain rfl := Option.some.inj h
  exact zR [] [] []

theorem hc_progress_statement_isRanks_3 (s : Int) (s_2 : List (Int × Int × Int × Bool)) (c0 : Int) (c0_2 : Int) (list : List Int) {r : Bool} (h : progress_statement_isRanks_3 s s_2 c0 c0_2 list = some r) : HC Try.prog 75 [] [.agg [.int .i64 s, .sl (.pair (.int .i64) (.pair (.int .i64) (.pair (.int .i64) .bool))) s_2, .fn (.func 95) [] [.dp (.int .i64) c0 0], .fn (.func 95) [] [.dp (.int .i64) c0_2 0]], .sl (.int .i64) list] [] (.bool r) := by
 unfold progress_statement_isRanks_3 at h
 refine zH Try.func75 [.tmp 4] 18 ?_
 refine zo ?_
 refine zB [(1, .sl (.int .i64) list), (2, .bp 2 0)] [(2, .box 85 [.int .i64 s, .sl (.pair (.int .i64) (.pair (.int .i64) (.pair (.int .i64) .bool))) s_2, .fn (.func 95) [] [.dp (.int .i64) c0 0], .fn (.func 95) [] [.dp (.int .i64) c0_2 0]])] ?_
 refine zo ?_
 refine zB [(1, .sl (.int .i64) list), (2, .bp 2 0), (5, .fn (.func 98) [] [])] [(2, .box 85 [.int .i64 s, .sl (.pair (.int .i64) (.pair (.int .i64) (.pair (.int .i64) .bool))) s_2, .fn (.func 95) [] [.dp (.int .i64) c0 0], .fn (.func 95) [] [.dp (.int .i64) c0_2 0]])] ?_
 refine zo ?_
 refine zS 5 [(1, .sl (.int .i64) list), (5, .fn (.func 98) [] []), (7, .int .i64 (list.length : Int)), (10, .int .i64 s)] [] ?_
 refine zS 2 [(1, .sl (.int .i64) list), (5, .fn (.func 98) [] []), (12, .bool (decide ((list.length : Int) = s)))] [] ?_
 rcases zI h with ⟨hb1, h⟩ | ⟨hb1, h⟩
 ·refine zS 2 [(12, .bool true), (13, .sl (.int .i64) list), (14, .fn (.func 98) [] [])] [] ?_
  obtain ⟨v0, hv2, h⟩ := Option.bind_eq_some_iff.1 h
  refine zG [] [] (hc_slices_ContainsFunc_2 list hv2) [(12, .bool true), (15, .bool v0)] [] ?_
  refine zB [(4, .bool (!v0))] [] ?_
  refine AW.ret ?_
  obtain rfl := Option.some.inj h
  exact zR [] [] []
 ·refine zS 4 [(12, .bool false), (16, .cv (undef))] [] ?_
  refine zB [(4, .bool false)] [] ?_
  refine AW.ret ?_
  obtain rfl := Option.some.inj h
  exact zR [] [] []

theorem hc_progress_Prove (g : Int × (List (Int × Int × Int × Bool))) (claim : Int) (thread : Int) (ranks : List Int) {r : Bool × Int} (h : progress_Prove g claim thread ranks = some r) : HC Try.prog 33 [] [.agg [.int .i64 g.1, .sl (.pair (.int .i64) (.pair (.int .i64) (.pair (.int .i64) .bool))) g.2], .int .i64 claim, .int .i64 thread, .sl (.int .i64) ranks] [] (.tup [.bool r.1, .int .i64 r.2]) := by
 unfold progress_Prove at h
 refine zH Try.func33 [.tmp 8, .tmp 9] 36 ?_
 refine zo ?_
 refine zB [(1, .int .i64 claim), (2, .int .i64 thread), (3, .sl (.int .i64) ranks), (4, .bp 4 0)] [(4, .box 24 [.int .i64 g.1, .sl (.pair (.int .i64) (.pair (.int .i64) (.pair (.int .i64) .bool))) g.2])] ?_
 refine zo ?_
 refine zS 3 [(3, .sl (.int .i64) ranks), (15, .agg [.int .i64 g.1, .sl (.pair (.int .i64) (.pair (.int .i64) (.pair (.int .i64) .bool))) g.2]), (16, .int .i64 claim), (17, .int .i64 thread)] [] ?_
 obtain ⟨v0, hv1, h⟩ := Option.bind_eq_some_iff.1 h
 rcases v0 with v0_2 | v0_3 | v0_4 | v0_5
 ·try simp only at h
  refine zC [] [] (hc_progress_statementOf_a0 g claim thread hv1) [(3, .sl (.int .i64) ranks), (18, .tup [.agg [.int .i64 0, .cv (.slice none 0 0), .cv (.nilFunc), .cv (.nilFunc)], .int .i64 v0_2])] [] ?_
  refine zS 5 [(3, .sl (.int .i64) ranks), (10, .bp 10 0), (20, .int .i64 v0_2)] [(10, .box 85 [.int .i64 0, .cv (.slice none 0 0), .cv (.nilFunc), .cv (.nilFunc)])] ?_
  refine zB [(3, .sl (.int .i64) ranks), (10, .bp 10 0), (11, .int .i64 v0_2)] [(10, .box 85 [.int .i64 0, .cv (.slice none 0 0), .cv (.nilFunc), .cv (.nilFunc)])] ?_
  refine AW.seq ?_
  refine zo ?_
  refine zB [(3, .sl (.int .i64) ranks), (10, .bp 10 0), (11, .int .i64 v0_2), (22, .bool (!(decide (v0_2 = 0))))] [(10, .box 85 [.int .i64 0, .cv (.slice none 0 0), .cv (.nilFunc), .cv (.nilFunc)])] ?_
  refine zQ h (fun hb2 h => ?_) (fun hb2 h => ?_)
  ·refine zo ?_
   refine zB [(8, .bool false), (9, .int .i64 v0_2)] [] ?_
   refine zr ?_
   obtain rfl := Option.some.inj h
   exact zR [] [] []
  ·refine zk ?_
   refine AW.seq ?_
   refine zo ?_
   cases h
 ·try simp only at h
  refine zC [] [] (hc_progress_statementOf_a1 g claim thread hv1) [(3, .sl (.int .i64) ranks), (18, .tup [.agg [.int .i64 v0_3.1, .sl (.pair (.int .i64) (.pair (.int .i64) (.pair (.int .i64) .bool))) v0_3.2, .fn (.func 94) [] [], .fn (.func 94) [] []], .int .i64 0])] [] ?_
  refine zS 5 [(3, .sl (.int .i64) ranks), (10, .bp 10 0), (20, .int .i64 0)] [(10, .box 85 [.int .i64 v0_3.1, .sl (.pair (.int .i64) (.pair (.int .i64) (.pair (.int .i64) .bool))) v0_3.2, .fn (.func 94) [] [], .fn (.func 94) [] []])] ?_
  refine zB [(3, .sl (.int .i64) ranks), (10, .bp 10 0), (11, .int .i64 0)] [(10, .box 85 [.int .i64 v0_3.1, .sl (.pair (.int .i64) (.pair (.int .i64) (.pair (.int .i64) .bool))) v0_3.2, .fn (.func 94) [] [], .fn (.func 94) [] []])] ?_
  refine AW.seq ?_
  refine zo ?_
  refine zB [(3, .sl (.int .i64) ranks), (10, .bp 10 0), (11, .int .i64 0), (22, .bool false)] [(10, .box 85 [.int .i64 v0_3.1, .sl (.pair (.int .i64) (.pair (.int .i64) (.pair (.int .i64) .bool))) v0_3.2, .fn (.func 94) [] [], .fn (.func 94) [] []])] ?_
  refine AW.cond (b := false) rfl (fun hb3 => by cases hb3) (fun _ => ?_)
  refine zk ?_
  refine AW.seq ?_
  refine zo ?_
  refine zS 2 [(3, .sl (.int .i64) ranks), (10, .bp 10 0), (24, .agg [.int .i64 v0_3.1, .sl (.pair (.int .i64) (.pair (.int .i64) (.pair (.int .i64) .bool))) v0_3.2, .fn (.func 94) [] [], .fn (.func 94) [] []]), (25, .sl (.int .i64) ranks)] [(10, .box 85 [.int .i64 v0_3.1, .sl (.pair (.int .i64) (.pair (.int .i64) (.pair (.int .i64) .bool))) v0_3.2, .fn (.func 94) [] [], .fn (.func 94) [] []])] ?_
  obtain ⟨v0_6, hv4, h⟩ := Option.bind_eq_some_iff.1 h
  refine zC [] [] (hc_progress_statement_isRanks v0_3.1 v0_3.2 ranks hv4) [(3, .sl (.int .i64) ranks), (10, .bp 10 0), (26, .bool v0_6)] [(10, .box 85 [.int .i64 v0_3.1, .sl (.pair (.int .i64) (.pair (.int .i64) (.pair (.int .i64) .bool))) v0_3.2, .fn (.func 94) [] [], .fn (.func 94) [] []])] ?_
  refine zB [(3, .sl (.int .i64) ranks), (10, .bp 10 0), (27, .bool (!v0_6))] [(10, .box 85 [.int .i64 v0_3.1, .sl (.pair (.int .i64) (.pair (.int .i64) (.pair (.int .i64) .bool))) v0_3.2, .fn (.func 94) [] [], .fn (.func 94) [] []])] ?_
  refine zQ h (fun hb5 h => ?_) (fun hb5 h => ?_)
  ·refine zo ?_
   refine zB [(8, .bool false), (9, .int .i64 2)] [] ?_
   refine zr ?_
   obtain rfl := Option.some.inj h
   exact zR [] [] []
  ·refine zk ?_
   refine zo ?_
   refine zS 2 [(29, .agg [.int .i64 v0_3.1, .sl (.pair (.int .i64) (.pair (.int .i64) (.pair (.int .i64) .bool))) v0_3.2, .fn (.func 94) [] [], .fn (.func 94) [] []]), (30, .sl (.int .i64) ranks)] [] ?_
   obtain ⟨v0_7, hv6, h⟩ := Option.bind_eq_some_iff.1 h
   refine zC [] [] (hc_progress_statement_broken v0_3.1 v0_3.2 ranks hv6) [(31, .tup [.agg [.int .i64 v0_7.1, .int .i64 v0_7.2.1, .int .i64 v0_7.2.2.1, .bool v0_7.2.2.2.1], .bool v0_7.2.2.2.2])] [] ?_
   refine zS 5 [(33, .bool v0_7.2.2.2.2)] [] ?_
   refine zB [(13, .bool v0_7.2.2.2.2)] [] ?_
   refine zo ?_
   refine zB [(8, .bool (!v0_7.2.2.2.2)), (9, .int .i64 0)] [] ?_
   refine AW.ret ?_
   obtain rfl := Option.some.inj h
   exact zR [] [] []
 ·try simp only at h
  refine zC [] [] (hc_progress_statementOf_a2 g claim thread hv1) [(3, .sl (.int .i64) ranks), (18, .tup [.agg [.int .i64 v0_4.1, .sl (.pair (.int .i64) (.pair (.int .i64) (.pair (.int .i64) .bool))) v0_4.2, .fn (.func 96) [] [.bp 28000 0], .fn (.func 95) [] [.bp 28000 0]], .int .i64 0])] [(28000, .box 3 [.int .i64 thread])] ?_
  refine AO.weaken (s' := ⟨fr [(3, .sl (.int .i64) ranks), (18, .tup [.agg [.int .i64 v0_4.1, .sl (.pair (.int .i64) (.pair (.int .i64) (.pair (.int .i64) .bool))) v0_4.2, .fn (.func 96) [] [.dp (.int .i64) thread 0], .fn (.func 95) [] [.dp (.int .i64) thread 0]], .int .i64 0])], hpGet [], gt⟩) (Wk.boxes [28000] rfl rfl (by (simp only [go_sem]) <;> (with_reducible and_intros) <;> first | assumption | rfl | omega | (unfold maxLen; omega)) (by (simp only [go_sem]) <;> (with_reducible and_intros) <;> first | assumption | rfl | omega | (unfold maxLen; omega))) ?_
  refine zS 5 [(3, .sl (.int .i64) ranks), (10, .bp 10 0), (20, .int .i64 0)] [(10, .box 85 [.int .i64 v0_4.1, .sl (.pair (.int .i64) (.pair (.int .i64) (.pair (.int .i64) .bool))) v0_4.2, .fn (.func 96) [] [.dp (.int .i64) thread 0], .fn (.func 95) [] [.dp (.int .i64) thread 0]])] ?_
  refine zB [(3, .sl (.int .i64) ranks), (10, .bp 10 0), (11, .int .i64 0)] [(10, .box 85 [.int .i64 v0_4.1, .sl (.pair (.int .i64) (.pair (.int .i64) (.pair (.int .i64) .bool))) v0_4.2, .fn (.func 96) [] [.dp (.int .i64) thread 0], .fn (.func 95) [] [.dp (.int .i64) thread 0]])] ?_
  refine AW.seq ?_
  refine zo ?_
  refine zB [(3, .sl (.int .i64) ranks), (10, .bp 10 0), (11, .int .i64 0), (22, .bool false)] [(10, .box 85 [.int .i64 v0_4.1, .sl (.pair (.int .i64) (.pair (.int .i64) (.pair (.int .i64) .bool))) v0_4.2, .fn (.func 96) [] [.dp (.int .i64) thread 0], .fn (.func 95) [] [.dp (.int .i64) thread 0]])] ?_
  refine AW.cond (b := false) rfl (fun hb7 => by cases hb7) (fun _ => ?_)
  refine zk ?_
  refine AW.seq ?_
  refine zo ?_
  refine zS 2 [(3, .sl (.int .i64) ranks), (10, .bp 10 0), (24, .agg [.int .i64 v0_4.1, .sl (.pair (.int .i64) (.pair (.int .i64) (.pair (.int .i64) .bool))) v0_4.2, .fn (.func 96) [] [.dp (.int .i64) thread 0], .fn (.func 95) [] [.dp (.int .i64) thread 0]]), (25, .sl (.int .i64) ranks)] [(10, .box 85 [.int .i64 v0_4.1, .sl (.pair (.int .i64) (.pair (.int .i64) (.pair (.int .i64) .bool))) v0_4.2, .fn (.func 96) [] [.dp (.int .i64) thread 0], .fn (.func 95) [] [.dp (.int .i64) thread 0]])] ?_
  obtain ⟨v0_8, hv8, h⟩ := Option.bind_eq_some_iff.1 h
  refine zC [] [] (hc_progress_statement_isRanks_2 v0_4.1 v0_4.2 thread thread ranks hv8) [(3, .sl (.int .i64) ranks), (10, .bp 10 0), (26, .bool v0_8)] [(10, .box 85 [.int .i64 v0_4.1, .sl (.pair (.int .i64) (.pair (.int .i64) (.pair (.int .i64) .bool))) v0_4.2, .fn (.func 96) [] [.dp (.int .i64) thread 0], .fn (.func 95) [] [.dp (.int .i64) thread 0]])] ?_
  refine zB [(3, .sl (.int .i64) ranks), (10, .bp 10 0), (27, .bool (!v0_8))] [(10, .box 85 [.int .i64 v0_4.1, .sl (.pair (.int .i64) (.pair (.int .i64) (.pair (.int .i64) .bool))) v0_4.2, .fn (.func 96) [] [.dp (.int .i64) thread 0], .fn (.func 95) [] [.dp (.int .i64) thread 0]])] ?_
  refine zQ h (fun hb9 h => ?_) (fun hb9 h => ?_)
  ·refine zo ?_
   refine zB [(8, .bool false), (9, .int .i64 2)] [] ?_
   refine zr ?_
   obtain rfl := Option.some.inj h
   exact zR [] [] []
  ·refine zk ?_
   refine zo ?_
   refine zS 2 [(29, .agg [.int .i64 v0_4.1, .sl (.pair (.int .i64) (.pair (.int .i64) (.pair (.int .i64) .bool))) v0_4.2, .fn (.func 96) [] [.dp (.int .i64) thread 0], .fn (.func 95) [] [.dp (.int .i64) thread 0]]), (30, .sl (.int .i64) ranks)] [] ?_
   obtain ⟨v0_9, hv10, h⟩ := Option.bind_eq_some_iff.1 h
   refine zC [] [] (hc_progress_statement_broken_2 v0_4.1 v0_4.2 thread thread ranks hv10) [(31, .tup [.agg [.int .i64 v0_9.1, .int .i64 v0_9.2.1, .int .i64 v0_9.2.2.1, .bool v0_9.2.2.2.1], .bool v0_9.2.2.2.2])] [] ?_
   refine zS 5 [(33, .bool v0_9.2.2.2.2)] [] ?_
   refine zB [(13, .bool v0_9.2.2.2.2)] [] ?_
   refine zo ?_
   refine zB [(8, .bool (!v0_9.2.2.2.2)), (9, .int .i64 0)] [] ?_
   refine AW.ret ?_
   obtain rfl := Option.some.inj h
   exact zR [] [] []
 ·try simp only at h
  refine zC [] [] (hc_progress_statementOf_a3 g claim thread hv1) [(3, .sl (.int .i64) ranks), (18, .tup [.agg [.int .i64 v0_5.1, .sl (.pair (.int .i64) (.pair (.int .i64) (.pair (.int .i64) .bool))) v0_5.2, .fn (.func 95) [] [.bp 28000 0], .fn (.func 95) [] [.bp 28000 0]], .int .i64 0])] [(28000, .box 3 [.int .i64 thread])] ?_
  refine AO.weaken (s' := ⟨fr [(3, .sl (.int .i64) ranks), (18, .tup [.agg [.int .i64 v0_5.1, .sl (.pair (.int .i64) (.pair (.int .i64) (.pair (.int .i64) .bool))) v0_5.2, .fn (.func 95) [] [.dp (.int .i64) thread 0], .fn (.func 95) [] [.dp (.int .i64) thread 0]], .int .i64 0])], hpGet [], gt⟩) (Wk.boxes [28000] rfl rfl (by (simp only [go_sem]) <;> (with_reducible and_intros) <;> first | assumption | rfl | omega | (unfold maxLen; omega)) (by (simp only [go_sem]) <;> (with_reducible and_intros) <;> first | assumption | rfl | omega | (unfold maxLen; omega))) ?_
  refine zS 5 [(3, .sl (.int .i64) ranks), (10, .bp 10 0), (20, .int .i64 0)] [(10, .box 85 [.int .i64 v0_5.1, .sl (.pair (.int .i64) (.pair (.int .i64) (.pair (.int .i64) .bool))) v0_5.2, .fn (.func 95) [] [.dp (.int .i64) thread 0], .fn (.func 95) [] [.dp (.int .i64) thread 0]])] ?_
  refine zB [(3, .sl (.int .i64) ranks), (10, .bp 10 0), (11, .int .i64 0)] [(10, .box 85 [.int .i64 v0_5.1, .sl (.pair (.int .i64) (.pair (.int .i64) (.pair (.int .i64) .bool))) v0_5.2, .fn (.func 95) [] [.dp (.int .i64) thread 0], .fn (.func 95) [] [.dp (.int .i64) thread 0]])] ?_
  refine AW.seq ?_
  refine zo ?_
  refine zB [(3, .sl (.int .i64) ranks), (10, .bp 10 0), (11, .int .i64 0), (22, .bool false)] [(10, .box 85 [.int .i64 v0_5.1, .sl (.pair (.int .i64) (.pair (.int .i64) (.pair (.int .i64) .bool))) v0_5.2, .fn (.func 95) [] [.dp (.int .i64) thread 0], .fn (.func 95) [] [.dp (.int .i64) thread 0]])] ?_
  refine AW.cond (b := false) rfl (fun hb11 => by cases hb11) (fun _ => ?_)
  refine zk ?_
  refine AW.seq ?_
  refine zo ?_
  refine zS 2 [(3, .sl (.int .i64) ranks), (10, .bp 10 0), (24, .agg [.int .i64 v0_5.1, .sl (.pair (.int .i64) (.pair (.int .i64) (.pair (.int .i64) .bool))) v0_5.2, .fn (.func 95) [] [.dp (.int .i64) thread 0], .fn (.func 95) [] [.dp (.int .i64) thread 0]]), (25, .sl (.int .i64) ranks)] [(10, .box 85 [.int .i64 v0_5.1, .sl (.pair (.int .i64) (.pair (.int .i64) (.pair (.int .i64) .bool))) v0_5.2, .fn (.func 95) [] [.dp (.int .i64) thread 0], .fn (.func 95) [] [.dp (.int .i64) thread 0]])] ?_
  obtain ⟨v0_10, hv12, h⟩ := Option.bind_eq_some_iff.1 h
  refine zC [] [] (hc_progress_statement_isRanks_3 v0_5.1 v0_5.2 thread thread ranks hv12) [(3, .sl (.int .i64) ranks), (10, .bp 10 0), (26, .bool v0_10)] [(10, .box 85 [.int .i64 v0_5.1, .sl (.pair (.int .i64) (.pair (.int .i64) (.pair (.int .i64) .bool))) v0_5.2, .fn (.func 95) [] [.dp (.int .i64) thread 0], .fn (.func 95) [] [.dp (.int .i64) thread 0]])] ?_
  refine zB [(3, .sl (.int .i64) ranks), (10, .bp 10 0), (27, .bool (!v0_10))] [(10, .box 85 [.int .i64 v0_5.1, .sl (.pair (.int .i64) (.pair (.int .i64) (.pair (.int .i64) .bool))) v0_5.2, .fn (.func 95) [] [.dp (.int .i64) thread 0], .fn (.func 95) [] [.dp (.int .i64) thread 0]])] ?_
  refine zQ h (fun hb13 h => ?_) (fun hb13 h => ?_)
  ·refine zo ?_
   refine zB [(8, .bool false), (9, .int .i64 2)] [] ?_
   refine zr ?_
   obtain rfl := Option.some.inj h
   exact zR [] [] []
  ·refine zk ?_
   refine zo ?_
   refine zS 2 [(29, .agg [.int .i64 v0_5.1, .sl (.pair (.int .i64) (.pair (.int .i64) (.pair (.int .i64) .bool))) v0_5.2, .fn (.func 95) [] [.dp (.int .i64) thread 0], .fn (.func 95) [] [.dp (.int .i64) thread 0]]), (30, .sl (.int .i64) ranks)] [] ?_
   obtain ⟨v0_11, hv14, h⟩ := Option.bind_eq_some_iff.1 h
   refine zC [] [] (hc_progress_statement_broken_3 v0_5.1 v0_5.2 thread thread ranks hv14) [(31, .tup [.agg [.int .i64 v0_11.1, .int .i64 v0_11.2.1, .int .i64 v0_11.2.2.1, .bool v0_11.2.2.2.1], .bool v0_11.2.2.2.2])] [] ?_
   refine zS 5 [(33, .bool v0_11.2.2.2.2)] [] ?_
   refine zB [(13, .bool v0_11.2.2.2.2)] [] ?_
   refine zo ?_
   refine zB [(8, .bool (!v0_11.2.2.2.2)), (9, .int .i64 0)] [] ?_
   refine AW.ret ?_
   obtain rfl := Option.some.inj h
   exact zR [] [] []

end Go.Proofs.Yteclokkdgmacpaa
