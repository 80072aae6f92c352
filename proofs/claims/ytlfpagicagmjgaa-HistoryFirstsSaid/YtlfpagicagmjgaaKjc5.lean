/-
  Made by wip/tool/dc.py out of the print of the program: contracts.
-/
import Derived.Test.YtlfpagicagmjgaaHp
import Derived.Test.YtlfpagicagmjgaaShh
import Derived.Test.YtlfpagicagmjgaaKjc1
import Derived.Test.YtlfpagicagmjgaaKjc2
import Derived.Test.YtlfpagicagmjgaaKjc3
import Derived.Test.YtlfpagicagmjgaaKjc4
namespace Go.Proofs.Ytlfpagicagmjgaa
open Go.RowKit

set_option linter.unusedSimpArgs false
set_option linter.unusedVariables false
set_option linter.constructorNameAsVariable false

set_option maxRecDepth 100000
set_option maxHeartbeats 2000000

theorem hc_history_Allows (specs : ZS) (h0 : ZH) (order : List Int) {r : Bool × Int} (h : history_Allows specs h0 order = some r) : HC Try.prog 28 [] [.sl Y0 specs, .sl Y1 h0, .sl (.int .i64) order] [] (.tup [.bool r.1, .int .i64 r.2]) := by
 unfold history_Allows at h
 refine zH Try.func28 [.tmp 6, .tmp 7] 25 ?_
 refine zo ?_
 refine zB [(3, .bp 3 0), (4, .bp 4 0), (5, .bp 5 0)] [(3, .box 22 [.sl Y0 specs]), (4, .box 23 [.sl Y1 h0]), (5, .box 33 [.sl (.int .i64) order])] ?_
 refine zo ?_
 refine zS 2 [(3, .bp 3 0), (4, .bp 4 0), (5, .bp 5 0), (9, .sl Y0 specs), (10, .sl Y1 h0)] [(3, .box 22 [.sl Y0 specs]), (4, .box 23 [.sl Y1 h0]), (5, .box 33 [.sl (.int .i64) order])] ?_
 obtain ⟨v0, hv1, h⟩ := Option.bind_eq_some_iff.1 h
 refine zC [] [] (hc_history_checkFor specs h0 hv1) [(3, .bp 3 0), (4, .bp 4 0), (5, .bp 5 0), (11, .int .i64 v0)] [(3, .box 22 [.sl Y0 specs]), (4, .box 23 [.sl Y1 h0]), (5, .box 33 [.sl (.int .i64) order])] ?_
 refine zB [(3, .bp 3 0), (4, .bp 4 0), (5, .bp 5 0), (8, .int .i64 v0)] [(3, .box 22 [.sl Y0 specs]), (4, .box 23 [.sl Y1 h0]), (5, .box 33 [.sl (.int .i64) order])] ?_
 refine AW.have1 (fun b1 : Int => history_Allows_k1 specs h0 order b1 = some r) (fun b1 => ⟨fr [(3, .bp 3 0), (4, .bp 4 0), (5, .bp 5 0), (8, .int .i64 b1)], hpGet [(3, .box 22 [.sl Y0 specs]), (4, .box 23 [.sl Y1 h0]), (5, .box 33 [.sl (.int .i64) order])], gt⟩) (fun b1 h => ?_) (fun hk_history_Allows_k1 => ?_)
 ·unfold history_Allows_k1 at h
  refine zo ?_
  refine zS 2 [(20, .int .i64 b1), (21, .fn (.func 83) [] [.bp 3 0, .bp 4 0, .bp 5 0])] [(3, .box 22 [.sl Y0 specs]), (4, .box 23 [.sl Y1 h0]), (5, .box 33 [.sl (.int .i64) order])] ?_
  rcases Bool.eq_false_or_eq_true (decide (b1 = 0)) with hb2 | hb2
  ·rw [if_pos hb2] at h
   have hz3 : b1 = 0 := by simpa using hb2
   refine zT [(20, .int .i64 0), (21, .fn (.func 83) [] [.bp 3 0, .bp 4 0, .bp 5 0])] [(3, .box 22 [.sl Y0 specs]), (4, .box 23 [.sl Y1 h0]), (5, .box 33 [.sl (.int .i64) order])] gt ?_
   obtain ⟨v0_3, hv4, h⟩ := Option.bind_eq_some_iff.1 h
   refine zC [] [(1000, 3), (1001, 4), (1002, 5)] (hc_history_told_25 specs h0 order hv4) [(22, .tup [.bool v0_3, .int .i64 0])] [] ?_
   refine zB [(6, .bool v0_3), (7, .int .i64 0)] [] ?_
   refine AW.ret ?_
   obtain rfl := Option.some.inj h
   exact zR [] [] []
  ·rw [if_neg (Bool.eq_false_iff.1 hb2)] at h
   refine zT [(20, .int .i64 b1), (21, .fn (.func 83) [] [.bp 3 0, .bp 4 0, .bp 5 0])] [(3, .box 22 [.sl Y0 specs]), (4, .box 23 [.sl Y1 h0]), (5, .box 33 [.sl (.int .i64) order])] gt ?_
   obtain ⟨v0_4, hv5, h⟩ := Option.bind_eq_some_iff.1 h
   refine zC [] [(1000, 3), (1001, 4), (1002, 5)] (hc_history_told_26 b1 specs h0 order hb2 hv5) [(22, .tup [.bool false, .int .i64 b1])] [] ?_
   refine zB [(6, .bool false), (7, .int .i64 b1)] [] ?_
   refine AW.ret ?_
   obtain rfl := Option.some.inj h
   exact zR [] [] []
 ·refine AW.seq ?_
  refine zo ?_
  refine zS 3 [(3, .bp 3 0), (4, .bp 4 0), (5, .bp 5 0), (8, .int .i64 v0), (14, .bool (decide (v0 = 0)))] [(3, .box 22 [.sl Y0 specs]), (4, .box 23 [.sl Y1 h0]), (5, .box 33 [.sl (.int .i64) order])] ?_
  rcases zI h with ⟨hb6, h⟩ | ⟨hb6, h⟩
  ·refine zS 2 [(3, .bp 3 0), (4, .bp 4 0), (5, .bp 5 0), (8, .int .i64 v0), (14, .bool true), (15, .sl Y1 h0), (16, .sl (.int .i64) order)] [(3, .box 22 [.sl Y0 specs]), (4, .box 23 [.sl Y1 h0]), (5, .box 33 [.sl (.int .i64) order])] ?_
   obtain ⟨v0_2, hv7, h⟩ := Option.bind_eq_some_iff.1 h
   refine zG [] [] (hc_history_isOrder h0 order hv7) [(3, .bp 3 0), (4, .bp 4 0), (5, .bp 5 0), (8, .int .i64 v0), (14, .bool true), (17, .bool v0_2)] [(3, .box 22 [.sl Y0 specs]), (4, .box 23 [.sl Y1 h0]), (5, .box 33 [.sl (.int .i64) order])] ?_
   refine zB [(3, .bp 3 0), (4, .bp 4 0), (5, .bp 5 0), (8, .int .i64 v0), (19, .bool (!v0_2))] [(3, .box 22 [.sl Y0 specs]), (4, .box 23 [.sl Y1 h0]), (5, .box 33 [.sl (.int .i64) order])] ?_
   refine zQ h (fun hb8 h => ?_) (fun hb8 h => ?_)
   ·refine AW.ops ?_
    refine zB [(3, .bp 3 0), (4, .bp 4 0), (5, .bp 5 0), (8, .int .i64 2)] [(3, .box 22 [.sl Y0 specs]), (4, .box 23 [.sl Y1 h0]), (5, .box 33 [.sl (.int .i64) order])] ?_
    exact AW.weaken (zL [] [] []) (hk_history_Allows_k1 _ h)
   ·refine zk ?_
    exact AW.weaken (zL [] [] []) (hk_history_Allows_k1 _ h)
  ·refine zS 4 [(3, .bp 3 0), (4, .bp 4 0), (5, .bp 5 0), (8, .int .i64 v0), (14, .bool false), (18, .cv (undef))] [(3, .box 22 [.sl Y0 specs]), (4, .box 23 [.sl Y1 h0]), (5, .box 33 [.sl (.int .i64) order])] ?_
   refine zB [(3, .bp 3 0), (4, .bp 4 0), (5, .bp 5 0), (8, .int .i64 v0), (19, .bool false)] [(3, .box 22 [.sl Y0 specs]), (4, .box 23 [.sl Y1 h0]), (5, .box 33 [.sl (.int .i64) order])] ?_
   refine AW.cond (b := false) rfl (fun hb9 => by cases hb9) (fun _ => ?_)
   refine zk ?_
   exact AW.weaken (zL [] [] []) (hk_history_Allows_k1 _ h)

theorem hc_history_newSearch_2 (specs : ZS) (h0 : ZH) {r : Unit} (h : history_newSearch_2 specs h0 = some r) : HC Try.prog 86 [] [.sl Y0 specs, .sl Y1 h0, .fn (.func 91) [] []] [(2000, .map true false Y2 (.int .i64) [])] (.agg [.sl Y0 specs, .sl Y1 h0, .fn (.func 91) [] [], .own 2000]) := by
 unfold history_newSearch_2 at h
 refine zH Try.func86 [.cell 6 76] 12 ?_
 refine zo ?_
 refine zB [(0, .sl Y0 specs), (1, .sl Y1 h0), (2, .fn (.func 91) [] []), (6, .bp 6 0)] [(6, .box 76 [.cv (.slice none 0 0), .cv (.slice none 0 0), .cv (.nilFunc), .cv (.map none)])] ?_
 refine zo ?_
 refine zS 3 [(6, .bp 6 0), (7, .sl Y0 specs), (8, .sl Y1 h0), (9, .fn (.func 91) [] [])] [(6, .box 76 [.cv (.slice none 0 0), .cv (.slice none 0 0), .cv (.nilFunc), .cv (.map none)])] ?_
 refine AO.makeMap (ak := true) (ae := false) (kt := Y2) (vt := (.int .i64)) (by decide) (by decide) rfl rfl ?_
 refine zT [(6, .bp 6 0), (7, .sl Y0 specs), (8, .sl Y1 h0), (9, .fn (.func 91) [] []), (10, .own 10)] [(6, .box 76 [.cv (.slice none 0 0), .cv (.slice none 0 0), .cv (.nilFunc), .cv (.map none)]), (10, .map true false Y2 (.int .i64) [])] gt ?_
 refine zB [(6, .bp 6 0)] [(6, .box 76 [.sl Y0 specs, .sl Y1 h0, .fn (.func 91) [] [], .own 10]), (10, .map true false Y2 (.int .i64) [])] ?_
 refine AW.ret ?_
 obtain rfl := Option.some.inj h
 exact zR [] [] [(2000, 10)]

theorem hc_history_search_full_2 (s : ZS) (s_2 : ZH) (at0 : (Int × Int) × Int) {r : Bool} (h : history_search_full_2 s s_2 at0 = some r) : HC Try.prog 118 [] [.agg [.sl Y0 s, .sl Y1 s_2, .fn (.func 91) [] [], .one], .agg [.int .i64 at0.1.1, .int .i64 at0.1.2, .int .u64 at0.2]] [] (.bool r) := by
 unfold history_search_full_2 at h
 refine zH Try.func118 [.tmp 4] 25 ?_
 refine zo ?_
 refine zB [(2, .bp 2 0), (3, .bp 3 0)] [(2, .box 76 [.sl Y0 s, .sl Y1 s_2, .fn (.func 91) [] [], .one]), (3, .box 95 [.int .i64 at0.1.1, .int .i64 at0.1.2, .int .u64 at0.2])] ?_
 refine AW.have1 (fun _ : Unit => history_search_full_2_k1 = some r) (fun _ => ⟨fr [], hpGet [], gt⟩) (fun _ h => ?_) (fun hk_history_search_full_2_k1 => ?_)
 ·unfold history_search_full_2_k1 at h
  refine zo ?_
  refine zB [(4, .bool true)] [] ?_
  refine AW.ret ?_
  obtain rfl := Option.some.inj h
  exact zR [] [] []
 ·refine AW.seq ?_
  refine zo ?_
  refine zB [(3, .bp 3 0), (8, .sl Y1 s_2), (9, .int .i64 (s_2.length : Int)), (10, .int .i64 0)] [(3, .box 95 [.int .i64 at0.1.1, .int .i64 at0.1.2, .int .u64 at0.2])] ?_
  refine AW.block ?_
  obtain ⟨rv5, hw1, ho2⟩ := Option.bind_eq_some_iff.1 h
  refine AW.loopO (history_search_full_2_b1 s_2 at0) (fun st1 => ⟨fr [(3, .bp 3 0), (8, .sl Y1 s_2), (9, .int .i64 (s_2.length : Int)), (10, .int .i64 st1)], hpGet [(3, .box 95 [.int .i64 at0.1.1, .int .i64 at0.1.2, .int .u64 at0.2])], gt⟩) 0 hw1 (zL [] [] []) ?_
  intro st1 x4 h hd3
  unfold history_search_full_2_b1 at h
  refine zo ?_
  refine zB [(3, .bp 3 0), (8, .sl Y1 s_2), (9, .int .i64 (s_2.length : Int)), (10, .int .i64 st1), (11, .bool (decide (st1 < (s_2.length : Int))))] [(3, .box 95 [.int .i64 at0.1.1, .int .i64 at0.1.2, .int .u64 at0.2])] ?_
  refine AW.seq ?_
  refine zQ h (fun hb6 h => ?_) (fun hb6 h => ?_)
  ·refine zk ?_
   refine AW.seq ?_
   refine AW.block ?_
   refine zo ?_
   obtain ⟨c7, h⟩ := ck_some.1 h
   obtain ⟨c8, h⟩ := ck_some.1 h
   refine zB [(3, .bp 3 0), (5, .int .i64 st1), (6, .bp 6 0), (8, .sl Y1 s_2), (9, .int .i64 (s_2.length : Int)), (10, .int .i64 st1)] [(3, .box 95 [.int .i64 at0.1.1, .int .i64 at0.1.2, .int .u64 at0.2]), (6, .box 55 [.int .i64 (s_2.getD st1.toNat (0, 0, 0, 0, 0, 0)).1, .int .i64 (s_2.getD st1.toNat (0, 0, 0, 0, 0, 0)).2.1, .int .i64 (s_2.getD st1.toNat (0, 0, 0, 0, 0, 0)).2.2.1, .int .i64 (s_2.getD st1.toNat (0, 0, 0, 0, 0, 0)).2.2.2.1, .int .i64 (s_2.getD st1.toNat (0, 0, 0, 0, 0, 0)).2.2.2.2.1, .int .i64 (s_2.getD st1.toNat (0, 0, 0, 0, 0, 0)).2.2.2.2.2])] ?_
   refine zo ?_
   refine zS 4 [(3, .bp 3 0), (5, .int .i64 st1), (8, .sl Y1 s_2), (9, .int .i64 (s_2.length : Int)), (10, .int .i64 st1), (18, .bool (!(decide ((s_2.getD st1.toNat (0, 0, 0, 0, 0, 0)).2.2.2.2.2 = 0))))] [(3, .box 95 [.int .i64 at0.1.1, .int .i64 at0.1.2, .int .u64 at0.2])] ?_
   rcases zI h with ⟨hb9, h⟩ | ⟨hb9, h⟩
   ·refine zS 2 [(3, .bp 3 0), (8, .sl Y1 s_2), (9, .int .i64 (s_2.length : Int)), (10, .int .i64 st1), (18, .bool true), (19, .agg [.int .i64 at0.1.1, .int .i64 at0.1.2, .int .u64 at0.2]), (20, .int .i64 st1)] [(3, .box 95 [.int .i64 at0.1.1, .int .i64 at0.1.2, .int .u64 at0.2])] ?_
    obtain ⟨v0, hv10, h⟩ := Option.bind_eq_some_iff.1 h
    refine zG [] [] (hc_history_place_has at0 st1 hv10) [(3, .bp 3 0), (8, .sl Y1 s_2), (9, .int .i64 (s_2.length : Int)), (10, .int .i64 st1), (18, .bool true), (21, .bool (!(decide ((iand .u64 at0.2 (ishl .u64 1 st1)) = 0))))] [(3, .box 95 [.int .i64 at0.1.1, .int .i64 at0.1.2, .int .u64 at0.2])] ?_
    refine zB [(3, .bp 3 0), (8, .sl Y1 s_2), (9, .int .i64 (s_2.length : Int)), (10, .int .i64 st1), (23, .bool (!(!(decide ((iand .u64 at0.2 (ishl .u64 1 st1)) = 0)))))] [(3, .box 95 [.int .i64 at0.1.1, .int .i64 at0.1.2, .int .u64 at0.2])] ?_
    refine zQ h (fun hb11 h => ?_) (fun hb11 h => ?_)
    ·refine zo ?_
     refine zB [(4, .bool false)] [] ?_
     refine AW.ret ?_
     refine ablock_r ?_
     refine athen_r ?_
     obtain rfl := Option.some.inj h
     rw [← hd3 _ rfl] at ho2
     have h := ho2
     try simp only at h
     refine athen_r ?_
     refine ablock_r ?_
     refine athen_r ?_
     obtain rfl := Option.some.inj h
     exact zR [] [] []
    ·refine zm ?_
     refine athen_n ?_
     refine AW.ops ?_
     obtain ⟨c12, h⟩ := ck_some.1 h
     refine zA [(3, .bp 3 0), (8, .sl Y1 s_2), (9, .int .i64 (s_2.length : Int)), (10, .int .i64 (st1 + 1))] [(3, .box 95 [.int .i64 at0.1.1, .int .i64 at0.1.2, .int .u64 at0.2])] ?_
     obtain rfl := Option.some.inj h
     exact ⟨_, rfl, zL [] [] []⟩
   ·refine zS 4 [(3, .bp 3 0), (8, .sl Y1 s_2), (9, .int .i64 (s_2.length : Int)), (10, .int .i64 st1), (18, .bool false), (22, .cv (undef))] [(3, .box 95 [.int .i64 at0.1.1, .int .i64 at0.1.2, .int .u64 at0.2])] ?_
    refine zB [(3, .bp 3 0), (8, .sl Y1 s_2), (9, .int .i64 (s_2.length : Int)), (10, .int .i64 st1), (23, .bool false)] [(3, .box 95 [.int .i64 at0.1.1, .int .i64 at0.1.2, .int .u64 at0.2])] ?_
    refine AW.cond (b := false) rfl (fun hb13 => by cases hb13) (fun _ => ?_)
    refine zm ?_
    refine athen_n ?_
    refine AW.ops ?_
    obtain ⟨c14, h⟩ := ck_some.1 h
    refine zA [(3, .bp 3 0), (8, .sl Y1 s_2), (9, .int .i64 (s_2.length : Int)), (10, .int .i64 (st1 + 1))] [(3, .box 95 [.int .i64 at0.1.1, .int .i64 at0.1.2, .int .u64 at0.2])] ?_
    obtain rfl := Option.some.inj h
    exact ⟨_, rfl, zL [] [] []⟩
  ·refine AW.exit ?_
   refine athen_e ?_
   obtain rfl := Option.some.inj h
   rw [← hd3 _ rfl] at ho2
   have h := ho2
   try simp only at h
   refine athen_e ?_
   refine ablock_s ?_
   refine athen_n ?_
   exact AW.weaken (zL [] [] []) (hk_history_search_full_2_k1 () h)

theorem hc_history_search_steps_2 (s : ZS) (s_2 : ZH) (at0 : (Int × Int) × Int) {r : Unit} (h : history_search_steps_2 s s_2 at0 = some r) : HC Try.prog 119 [] [.agg [.sl Y0 s, .sl Y1 s_2, .fn (.func 91) [] [], .one], .agg [.int .i64 at0.1.1, .int .i64 at0.1.2, .int .u64 at0.2]] [(2000, .box 76 [.sl Y0 s, .sl Y1 s_2, .fn (.func 91) [] [], .one]), (2001, .box 95 [.int .i64 at0.1.1, .int .i64 at0.1.2, .int .u64 at0.2])] (.fn (.func 127) [] [.bp 2000 0, .bp 2001 0]) := by
 unfold history_search_steps_2 at h
 refine zH Try.func119 [.tmp 4] 6 ?_
 refine zo ?_
 refine zB [(2, .bp 2 0), (3, .bp 3 0)] [(2, .box 76 [.sl Y0 s, .sl Y1 s_2, .fn (.func 91) [] [], .one]), (3, .box 95 [.int .i64 at0.1.1, .int .i64 at0.1.2, .int .u64 at0.2])] ?_
 refine zo ?_
 refine zB [(4, .fn (.func 127) [] [.bp 2 0, .bp 3 0])] [(2, .box 76 [.sl Y0 s, .sl Y1 s_2, .fn (.func 91) [] [], .one]), (3, .box 95 [.int .i64 at0.1.1, .int .i64 at0.1.2, .int .u64 at0.2])] ?_
 refine AW.ret ?_
 obtain rfl := Option.some.inj h
 exact zR [] [] [(2000, 2), (2001, 3)]

theorem hc_history_search_ready_2 (s : ZS) (s_2 : ZH) (at0 : (Int × Int) × Int) (call : Int) {r : Bool} (h : history_search_ready_2 s s_2 at0 call = some r) : HC Try.prog 128 [] [.agg [.sl Y0 s, .sl Y1 s_2, .fn (.func 91) [] [], .one], .agg [.int .i64 at0.1.1, .int .i64 at0.1.2, .int .u64 at0.2], .int .i64 call] [] (.bool r) := by
 unfold history_search_ready_2 at h
 refine zH Try.func128 [.tmp 6] 36 ?_
 refine zo ?_
 refine zB [(2, .int .i64 call), (3, .bp 3 0), (4, .bp 4 0)] [(3, .box 76 [.sl Y0 s, .sl Y1 s_2, .fn (.func 91) [] [], .one]), (4, .box 95 [.int .i64 at0.1.1, .int .i64 at0.1.2, .int .u64 at0.2])] ?_
 refine AW.seq ?_
 refine zo ?_
 refine zS 2 [(2, .int .i64 call), (3, .bp 3 0), (4, .bp 4 0), (9, .agg [.int .i64 at0.1.1, .int .i64 at0.1.2, .int .u64 at0.2]), (10, .int .i64 call)] [(3, .box 76 [.sl Y0 s, .sl Y1 s_2, .fn (.func 91) [] [], .one]), (4, .box 95 [.int .i64 at0.1.1, .int .i64 at0.1.2, .int .u64 at0.2])] ?_
 obtain ⟨v0, hv1, h⟩ := Option.bind_eq_some_iff.1 h
 refine zC [] [] (hc_history_place_has at0 call hv1) [(2, .int .i64 call), (3, .bp 3 0), (4, .bp 4 0), (11, .bool (!(decide ((iand .u64 at0.2 (ishl .u64 1 call)) = 0))))] [(3, .box 76 [.sl Y0 s, .sl Y1 s_2, .fn (.func 91) [] [], .one]), (4, .box 95 [.int .i64 at0.1.1, .int .i64 at0.1.2, .int .u64 at0.2])] ?_
 refine zB [(2, .int .i64 call), (3, .bp 3 0), (4, .bp 4 0), (11, .bool (!(decide ((iand .u64 at0.2 (ishl .u64 1 call)) = 0))))] [(3, .box 76 [.sl Y0 s, .sl Y1 s_2, .fn (.func 91) [] [], .one]), (4, .box 95 [.int .i64 at0.1.1, .int .i64 at0.1.2, .int .u64 at0.2])] ?_
 refine zQ h (fun hb2 h => ?_) (fun hb2 h => ?_)
 ·refine zo ?_
  refine zB [(6, .bool false)] [] ?_
  refine zr ?_
  obtain rfl := Option.some.inj h
  exact zR [] [] []
 ·refine zk ?_
  refine AW.have1 (fun _ : Unit => history_search_ready_2_k1 = some r) (fun _ => ⟨fr [], hpGet [], gt⟩) (fun _ h => ?_) (fun hk_history_search_ready_2_k1 => ?_)
  ·unfold history_search_ready_2_k1 at h
   refine zo ?_
   refine zB [(6, .bool true)] [] ?_
   refine AW.ret ?_
   obtain rfl := Option.some.inj h
   exact zR [] [] []
  ·refine AW.seq ?_
   refine zo ?_
   refine zB [(2, .int .i64 call), (3, .bp 3 0), (4, .bp 4 0), (13, .sl Y1 s_2), (14, .int .i64 (s_2.length : Int)), (15, .int .i64 0)] [(3, .box 76 [.sl Y0 s, .sl Y1 s_2, .fn (.func 91) [] [], .one]), (4, .box 95 [.int .i64 at0.1.1, .int .i64 at0.1.2, .int .u64 at0.2])] ?_
   refine AW.block ?_
   obtain ⟨rv7, hw3, ho4⟩ := Option.bind_eq_some_iff.1 h
   refine AW.loopO (history_search_ready_2_b1 s_2 at0 call) (fun st1 => ⟨fr [(2, .int .i64 call), (3, .bp 3 0), (4, .bp 4 0), (13, .sl Y1 s_2), (14, .int .i64 (s_2.length : Int)), (15, .int .i64 st1)], hpGet [(3, .box 76 [.sl Y0 s, .sl Y1 s_2, .fn (.func 91) [] [], .one]), (4, .box 95 [.int .i64 at0.1.1, .int .i64 at0.1.2, .int .u64 at0.2])], gt⟩) 0 hw3 (zL [] [] []) ?_
   intro st1 x6 h hd5
   unfold history_search_ready_2_b1 at h
   refine zo ?_
   refine zB [(2, .int .i64 call), (3, .bp 3 0), (4, .bp 4 0), (13, .sl Y1 s_2), (14, .int .i64 (s_2.length : Int)), (15, .int .i64 st1), (16, .bool (decide (st1 < (s_2.length : Int))))] [(3, .box 76 [.sl Y0 s, .sl Y1 s_2, .fn (.func 91) [] [], .one]), (4, .box 95 [.int .i64 at0.1.1, .int .i64 at0.1.2, .int .u64 at0.2])] ?_
   refine AW.seq ?_
   refine zQ h (fun hb8 h => ?_) (fun hb8 h => ?_)
   ·refine zk ?_
    refine AW.seq ?_
    refine AW.block ?_
    refine zo ?_
    obtain ⟨c9, h⟩ := ck_some.1 h
    obtain ⟨c10, h⟩ := ck_some.1 h
    refine zB [(2, .int .i64 call), (3, .bp 3 0), (4, .bp 4 0), (7, .int .i64 st1), (8, .bp 8 0), (13, .sl Y1 s_2), (14, .int .i64 (s_2.length : Int)), (15, .int .i64 st1)] [(3, .box 76 [.sl Y0 s, .sl Y1 s_2, .fn (.func 91) [] [], .one]), (4, .box 95 [.int .i64 at0.1.1, .int .i64 at0.1.2, .int .u64 at0.2]), (8, .box 55 [.int .i64 (s_2.getD st1.toNat (0, 0, 0, 0, 0, 0)).1, .int .i64 (s_2.getD st1.toNat (0, 0, 0, 0, 0, 0)).2.1, .int .i64 (s_2.getD st1.toNat (0, 0, 0, 0, 0, 0)).2.2.1, .int .i64 (s_2.getD st1.toNat (0, 0, 0, 0, 0, 0)).2.2.2.1, .int .i64 (s_2.getD st1.toNat (0, 0, 0, 0, 0, 0)).2.2.2.2.1, .int .i64 (s_2.getD st1.toNat (0, 0, 0, 0, 0, 0)).2.2.2.2.2])] ?_
    refine AW.seq ?_
    refine AW.draw tab_ok mixed_ok [] [] (by decide) (by kernel_rfl) ?_
    obtain ⟨c12, h⟩ := ck_some.1 h
    obtain ⟨c13, h⟩ := ck_some.1 h
    refine adops_cut 6 (fun K' hK11 => ?_)
    try dsimp only [List.drop_succ_cons, List.drop_zero, List.take_succ_cons, List.take_zero]
    simp only [go_sem, hb2, hb8]
    repeat with_reducible refine zN ?_
    refine hK11 _ ?_
    refine adops_cut 2 (fun K' hK14 => ?_)
    try dsimp only [List.drop_succ_cons, List.drop_zero, List.take_succ_cons, List.take_zero]
    simp only [go_sem, hb2, hb8]
    repeat with_reducible refine zN ?_
    refine hK14 _ ?_
    obtain ⟨v0_2, hv15, h⟩ := Option.bind_eq_some_iff.1 h
    refine adops.call (by first | trivial | rfl) rfl rfl rfl (fun _ h => h) [] [] (hc_history_inThread (s_2.getD call.toNat (0, 0, 0, 0, 0, 0)) (s_2.getD st1.toNat (0, 0, 0, 0, 0, 0)) hv15) rfl (by (simp only [go_sem, hb2, hb8]) <;> (with_reducible and_intros) <;> first | assumption | rfl | omega | (unfold maxLen; omega)) (by (simp only [go_sem, hb2, hb8]) <;> (with_reducible and_intros) <;> first | assumption | rfl | omega | (unfold maxLen; omega)) rfl ?_
    refine adops_cut 1 (fun K' hK16 => ?_)
    try dsimp only [List.drop_succ_cons, List.drop_zero, List.take_succ_cons, List.take_zero]
    simp only [go_sem, hb2, hb8]
    repeat with_reducible refine zN ?_
    refine hK16 _ ?_
    rcases zI h with ⟨hb17, h⟩ | ⟨hb17, h⟩
    ·simp only [hb17]
     refine adops_cut 2 (fun K' hK18 => ?_)
     try dsimp only [List.drop_succ_cons, List.drop_zero, List.take_succ_cons, List.take_zero]
     simp only [go_sem, hb2, hb8, hb17]
     repeat with_reducible refine zN ?_
     refine hK18 _ ?_
     obtain ⟨v0_3, hv19, h⟩ := Option.bind_eq_some_iff.1 h
     refine adops.call (by first | trivial | rfl) rfl rfl rfl (fun _ h => ⟨fun _ => h, fun hn => absurd rfl hn⟩) [] [] (hc_history_place_has at0 st1 hv19) rfl (by (simp only [go_sem, hb2, hb8, hb17]) <;> (with_reducible and_intros) <;> first | assumption | rfl | omega | (unfold maxLen; omega)) (by (simp only [go_sem, hb2, hb8, hb17]) <;> (with_reducible and_intros) <;> first | assumption | rfl | omega | (unfold maxLen; omega)) rfl ?_
     refine adops_cut 2 (fun K' hK20 => ?_)
     try dsimp only [List.drop_succ_cons, List.drop_zero, List.take_succ_cons, List.take_zero]
     simp only [go_sem, hb2, hb8, hb17]
     repeat with_reducible refine zN ?_
     refine hK20 _ ?_
     refine adops_nil ?_
     refine athen_n ?_
     refine zV [(2, .int .i64 call), (3, .bp 3 0), (4, .bp 4 0), (13, .sl Y1 s_2), (14, .int .i64 (s_2.length : Int)), (15, .int .i64 st1), (34, .bool (!(!(decide ((iand .u64 at0.2 (ishl .u64 1 st1)) = 0)))))] [(3, .box 76 [.sl Y0 s, .sl Y1 s_2, .fn (.func 91) [] [], .one]), (4, .box 95 [.int .i64 at0.1.1, .int .i64 at0.1.2, .int .u64 at0.2])] gt ?_
     refine zQ h (fun hb21 h => ?_) (fun hb21 h => ?_)
     ·refine zo ?_
      refine zB [(6, .bool false)] [] ?_
      refine AW.ret ?_
      refine ablock_r ?_
      refine athen_r ?_
      obtain rfl := Option.some.inj h
      rw [← hd5 _ rfl] at ho4
      have h := ho4
      try simp only at h
      refine athen_r ?_
      refine ablock_r ?_
      refine athen_r ?_
      obtain rfl := Option.some.inj h
      exact zR [] [] []
     ·refine zm ?_
      refine athen_n ?_
      refine AW.ops ?_
      obtain ⟨c22, h⟩ := ck_some.1 h
      refine zA [(2, .int .i64 call), (3, .bp 3 0), (4, .bp 4 0), (13, .sl Y1 s_2), (14, .int .i64 (s_2.length : Int)), (15, .int .i64 (st1 + 1))] [(3, .box 76 [.sl Y0 s, .sl Y1 s_2, .fn (.func 91) [] [], .one]), (4, .box 95 [.int .i64 at0.1.1, .int .i64 at0.1.2, .int .u64 at0.2])] ?_
      obtain rfl := Option.some.inj h
      exact ⟨_, rfl, zL [] [] []⟩
    ·simp only [hb17]
     refine adops_cut 4 (fun K' hK23 => ?_)
     try dsimp only [List.drop_succ_cons, List.drop_zero, List.take_succ_cons, List.take_zero]
     simp only [go_sem, hb2, hb8, hb17]
     repeat with_reducible refine zN ?_
     refine hK23 _ ?_
     refine adops_cut 1 (fun K' hK24 => ?_)
     try dsimp only [List.drop_succ_cons, List.drop_zero, List.take_succ_cons, List.take_zero]
     simp only [go_sem, hb2, hb8, hb17]
     repeat with_reducible refine zN ?_
     refine hK24 _ ?_
     refine adops_nil ?_
     refine athen_n ?_
     refine zV [(2, .int .i64 call), (3, .bp 3 0), (4, .bp 4 0), (13, .sl Y1 s_2), (14, .int .i64 (s_2.length : Int)), (15, .int .i64 st1), (34, .bool false)] [(3, .box 76 [.sl Y0 s, .sl Y1 s_2, .fn (.func 91) [] [], .one]), (4, .box 95 [.int .i64 at0.1.1, .int .i64 at0.1.2, .int .u64 at0.2])] gt ?_
     refine AW.cond (b := false) rfl (fun hb25 => by cases hb25) (fun _ => ?_)
     refine zm ?_
     refine athen_n ?_
     refine AW.ops ?_
     obtain ⟨c26, h⟩ := ck_some.1 h
     refine zA [(2, .int .i64 call), (3, .bp 3 0), (4, .bp 4 0), (13, .sl Y1 s_2), (14, .int .i64 (s_2.length : Int)), (15, .int .i64 (st1 + 1))] [(3, .box 76 [.sl Y0 s, .sl Y1 s_2, .fn (.func 91) [] [], .one]), (4, .box 95 [.int .i64 at0.1.1, .int .i64 at0.1.2, .int .u64 at0.2])] ?_
     obtain rfl := Option.some.inj h
     exact ⟨_, rfl, zL [] [] []⟩
   ·refine AW.exit ?_
    refine athen_e ?_
    obtain rfl := Option.some.inj h
    rw [← hd5 _ rfl] at ho4
    have h := ho4
    try simp only at h
    refine athen_e ?_
    refine ablock_s ?_
    refine athen_n ?_
    exact AW.weaken (zL [] [] []) (hk_history_search_ready_2_k1 () h)

theorem ic_history_search_steps_1_2 {S R : Type} (a1 : ZS) (a1_2 : ZH) (a2 : (Int × Int) × Int) (yl : Int × ((Int × Int) × Int) → S → Option (Step S R)) (s0 : S) {r : Sum S R} (h : history_search_steps_1_2 S R a1 a1_2 a2 yl s0 = some r) : IC Try.prog 127 [(1000, .box 76 [.sl Y0 a1, .sl Y1 a1_2, .fn (.func 91) [] [], .one]), (1001, .box 95 [.int .i64 a2.1.1, .int .i64 a2.1.2, .int .u64 a2.2])] [.bp 1000 0, .bp 1001 0] (fun (y : Int × ((Int × Int) × Int)) => [.int .i64 y.1, .agg [.int .i64 y.2.1.1, .int .i64 y.2.1.2, .int .u64 y.2.2]]) yl s0 r := by
 unfold history_search_steps_1_2 at h
 refine IC.of_body Try.func127 rfl (by kernel_rfl) rfl (nt := 41) rfl (by decide) (by simp) ?_
 intro Γ Γx lp hΓ hΓx hY
 refine zo ?_
 refine zB [(0, .fn (.yield lp) [] []), (1, .bp 1000 0), (2, .bp 1001 0), (8, .sl Y1 a1_2), (9, .int .i64 (a1_2.length : Int)), (10, .int .i64 0)] [(1000, .box 76 [.sl Y0 a1, .sl Y1 a1_2, .fn (.func 91) [] [], .one]), (1001, .box 95 [.int .i64 a2.1.1, .int .i64 a2.1.2, .int .u64 a2.2])] ?_
 refine AW.block ?_
 obtain ⟨rv5, hw1, ho2⟩ := Option.bind_eq_some_iff.1 h
 refine AW.loopO (history_search_steps_1_2_b1 S R a1 a1_2 a2 yl) (fun st1 => ⟨fr [(0, .fn (.yield lp) [] []), (1, .bp 1000 0), (2, .bp 1001 0), (8, .sl Y1 a1_2), (9, .int .i64 (a1_2.length : Int)), (10, .int .i64 st1.1)], hpGet [(1000, .box 76 [.sl Y0 a1, .sl Y1 a1_2, .fn (.func 91) [] [], .one]), (1001, .box 95 [.int .i64 a2.1.1, .int .i64 a2.1.2, .int .u64 a2.2])], (Γ st1.2)⟩) (0, s0) hw1 (zL [] [] []) ?_
 intro st1 x4 h hd3
 unfold history_search_steps_1_2_b1 at h
 refine zo ?_
 refine zB [(0, .fn (.yield lp) [] []), (1, .bp 1000 0), (2, .bp 1001 0), (8, .sl Y1 a1_2), (9, .int .i64 (a1_2.length : Int)), (10, .int .i64 st1.1), (11, .bool (decide (st1.1 < (a1_2.length : Int))))] [(1000, .box 76 [.sl Y0 a1, .sl Y1 a1_2, .fn (.func 91) [] [], .one]), (1001, .box 95 [.int .i64 a2.1.1, .int .i64 a2.1.2, .int .u64 a2.2])] ?_
 refine AW.seq ?_
 refine zQ h (fun hb6 h => ?_) (fun hb6 h => ?_)
 ·refine zk ?_
  refine AW.seq ?_
  refine AW.block ?_
  refine zo ?_
  obtain ⟨c7, h⟩ := ck_some.1 h
  obtain ⟨c8, h⟩ := ck_some.1 h
  refine zB [(0, .fn (.yield lp) [] []), (1, .bp 1000 0), (2, .bp 1001 0), (4, .int .i64 st1.1), (5, .bp 5 0), (8, .sl Y1 a1_2), (9, .int .i64 (a1_2.length : Int)), (10, .int .i64 st1.1)] [(5, .box 55 [.int .i64 (a1_2.getD st1.1.toNat (0, 0, 0, 0, 0, 0)).1, .int .i64 (a1_2.getD st1.1.toNat (0, 0, 0, 0, 0, 0)).2.1, .int .i64 (a1_2.getD st1.1.toNat (0, 0, 0, 0, 0, 0)).2.2.1, .int .i64 (a1_2.getD st1.1.toNat (0, 0, 0, 0, 0, 0)).2.2.2.1, .int .i64 (a1_2.getD st1.1.toNat (0, 0, 0, 0, 0, 0)).2.2.2.2.1, .int .i64 (a1_2.getD st1.1.toNat (0, 0, 0, 0, 0, 0)).2.2.2.2.2]), (1000, .box 76 [.sl Y0 a1, .sl Y1 a1_2, .fn (.func 91) [] [], .one]), (1001, .box 95 [.int .i64 a2.1.1, .int .i64 a2.1.2, .int .u64 a2.2])] ?_
  refine zo ?_
  refine zB [(0, .fn (.yield lp) [] []), (1, .bp 1000 0), (2, .bp 1001 0), (4, .int .i64 st1.1), (5, .bp 5 0), (6, .bp 6 0), (8, .sl Y1 a1_2), (9, .int .i64 (a1_2.length : Int)), (10, .int .i64 st1.1)] [(5, .box 55 [.int .i64 (a1_2.getD st1.1.toNat (0, 0, 0, 0, 0, 0)).1, .int .i64 (a1_2.getD st1.1.toNat (0, 0, 0, 0, 0, 0)).2.1, .int .i64 (a1_2.getD st1.1.toNat (0, 0, 0, 0, 0, 0)).2.2.1, .int .i64 (a1_2.getD st1.1.toNat (0, 0, 0, 0, 0, 0)).2.2.2.1, .int .i64 (a1_2.getD st1.1.toNat (0, 0, 0, 0, 0, 0)).2.2.2.2.1, .int .i64 (a1_2.getD st1.1.toNat (0, 0, 0, 0, 0, 0)).2.2.2.2.2]), (6, .box 95 [.int .i64 a2.1.1, .int .i64 a2.1.2, .int .u64 a2.2]), (1000, .box 76 [.sl Y0 a1, .sl Y1 a1_2, .fn (.func 91) [] [], .one]), (1001, .box 95 [.int .i64 a2.1.1, .int .i64 a2.1.2, .int .u64 a2.2])] ?_
  refine AW.seq ?_
  refine zo ?_
  refine zS 3 [(0, .fn (.yield lp) [] []), (1, .bp 1000 0), (2, .bp 1001 0), (4, .int .i64 st1.1), (5, .bp 5 0), (6, .bp 6 0), (8, .sl Y1 a1_2), (9, .int .i64 (a1_2.length : Int)), (10, .int .i64 st1.1), (16, .agg [.sl Y0 a1, .sl Y1 a1_2, .fn (.func 91) [] [], .one]), (17, .agg [.int .i64 a2.1.1, .int .i64 a2.1.2, .int .u64 a2.2]), (18, .int .i64 st1.1)] [(5, .box 55 [.int .i64 (a1_2.getD st1.1.toNat (0, 0, 0, 0, 0, 0)).1, .int .i64 (a1_2.getD st1.1.toNat (0, 0, 0, 0, 0, 0)).2.1, .int .i64 (a1_2.getD st1.1.toNat (0, 0, 0, 0, 0, 0)).2.2.1, .int .i64 (a1_2.getD st1.1.toNat (0, 0, 0, 0, 0, 0)).2.2.2.1, .int .i64 (a1_2.getD st1.1.toNat (0, 0, 0, 0, 0, 0)).2.2.2.2.1, .int .i64 (a1_2.getD st1.1.toNat (0, 0, 0, 0, 0, 0)).2.2.2.2.2]), (6, .box 95 [.int .i64 a2.1.1, .int .i64 a2.1.2, .int .u64 a2.2]), (1000, .box 76 [.sl Y0 a1, .sl Y1 a1_2, .fn (.func 91) [] [], .one]), (1001, .box 95 [.int .i64 a2.1.1, .int .i64 a2.1.2, .int .u64 a2.2])] ?_
  obtain ⟨v0, hv9, h⟩ := Option.bind_eq_some_iff.1 h
  refine zC [] [] (hc_history_search_ready_2 a1 a1_2 a2 st1.1 hv9) [(0, .fn (.yield lp) [] []), (1, .bp 1000 0), (2, .bp 1001 0), (4, .int .i64 st1.1), (5, .bp 5 0), (6, .bp 6 0), (8, .sl Y1 a1_2), (9, .int .i64 (a1_2.length : Int)), (10, .int .i64 st1.1), (19, .bool v0)] [(5, .box 55 [.int .i64 (a1_2.getD st1.1.toNat (0, 0, 0, 0, 0, 0)).1, .int .i64 (a1_2.getD st1.1.toNat (0, 0, 0, 0, 0, 0)).2.1, .int .i64 (a1_2.getD st1.1.toNat (0, 0, 0, 0, 0, 0)).2.2.1, .int .i64 (a1_2.getD st1.1.toNat (0, 0, 0, 0, 0, 0)).2.2.2.1, .int .i64 (a1_2.getD st1.1.toNat (0, 0, 0, 0, 0, 0)).2.2.2.2.1, .int .i64 (a1_2.getD st1.1.toNat (0, 0, 0, 0, 0, 0)).2.2.2.2.2]), (6, .box 95 [.int .i64 a2.1.1, .int .i64 a2.1.2, .int .u64 a2.2]), (1000, .box 76 [.sl Y0 a1, .sl Y1 a1_2, .fn (.func 91) [] [], .one]), (1001, .box 95 [.int .i64 a2.1.1, .int .i64 a2.1.2, .int .u64 a2.2])] ?_
  refine zS 2 [(0, .fn (.yield lp) [] []), (1, .bp 1000 0), (2, .bp 1001 0), (4, .int .i64 st1.1), (5, .bp 5 0), (6, .bp 6 0), (8, .sl Y1 a1_2), (9, .int .i64 (a1_2.length : Int)), (10, .int .i64 st1.1), (21, .bool (!v0))] [(5, .box 55 [.int .i64 (a1_2.getD st1.1.toNat (0, 0, 0, 0, 0, 0)).1, .int .i64 (a1_2.getD st1.1.toNat (0, 0, 0, 0, 0, 0)).2.1, .int .i64 (a1_2.getD st1.1.toNat (0, 0, 0, 0, 0, 0)).2.2.1, .int .i64 (a1_2.getD st1.1.toNat (0, 0, 0, 0, 0, 0)).2.2.2.1, .int .i64 (a1_2.getD st1.1.toNat (0, 0, 0, 0, 0, 0)).2.2.2.2.1, .int .i64 (a1_2.getD st1.1.toNat (0, 0, 0, 0, 0, 0)).2.2.2.2.2]), (6, .box 95 [.int .i64 a2.1.1, .int .i64 a2.1.2, .int .u64 a2.2]), (1000, .box 76 [.sl Y0 a1, .sl Y1 a1_2, .fn (.func 91) [] [], .one]), (1001, .box 95 [.int .i64 a2.1.1, .int .i64 a2.1.2, .int .u64 a2.2])] ?_
  rcases zI h with ⟨hb10, h⟩ | ⟨hb10, h⟩
  ·refine zS 4 [(0, .fn (.yield lp) [] []), (1, .bp 1000 0), (2, .bp 1001 0), (4, .int .i64 st1.1), (6, .bp 6 0), (8, .sl Y1 a1_2), (9, .int .i64 (a1_2.length : Int)), (10, .int .i64 st1.1), (21, .bool true), (22, .cv (undef)), (24, .cv (undef)), (25, .cv (undef))] [(6, .box 95 [.int .i64 a2.1.1, .int .i64 a2.1.2, .int .u64 a2.2]), (1000, .box 76 [.sl Y0 a1, .sl Y1 a1_2, .fn (.func 91) [] [], .one]), (1001, .box 95 [.int .i64 a2.1.1, .int .i64 a2.1.2, .int .u64 a2.2])] ?_
   refine zB [(0, .fn (.yield lp) [] []), (1, .bp 1000 0), (2, .bp 1001 0), (4, .int .i64 st1.1), (6, .bp 6 0), (8, .sl Y1 a1_2), (9, .int .i64 (a1_2.length : Int)), (10, .int .i64 st1.1), (28, .bool true)] [(6, .box 95 [.int .i64 a2.1.1, .int .i64 a2.1.2, .int .u64 a2.2]), (1000, .box 76 [.sl Y0 a1, .sl Y1 a1_2, .fn (.func 91) [] [], .one]), (1001, .box 95 [.int .i64 a2.1.1, .int .i64 a2.1.2, .int .u64 a2.2])] ?_
   refine AW.cond (b := true) rfl (fun _ => ?_) (fun hb11 => by cases hb11)
   refine AW.exit ?_
   refine athen_e ?_
   refine ablock_s ?_
   refine athen_n ?_
   refine AW.ops ?_
   obtain ⟨c12, h⟩ := ck_some.1 h
   refine zA [(0, .fn (.yield lp) [] []), (1, .bp 1000 0), (2, .bp 1001 0), (8, .sl Y1 a1_2), (9, .int .i64 (a1_2.length : Int)), (10, .int .i64 (st1.1 + 1))] [(1000, .box 76 [.sl Y0 a1, .sl Y1 a1_2, .fn (.func 91) [] [], .one]), (1001, .box 95 [.int .i64 a2.1.1, .int .i64 a2.1.2, .int .u64 a2.2])] ?_
   obtain rfl := Option.some.inj h
   exact ⟨_, rfl, zL [] [] []⟩
  ·refine zS 4 [(0, .fn (.yield lp) [] []), (1, .bp 1000 0), (2, .bp 1001 0), (4, .int .i64 st1.1), (6, .bp 6 0), (8, .sl Y1 a1_2), (9, .int .i64 (a1_2.length : Int)), (10, .int .i64 st1.1), (21, .bool false), (22, .bp 6 0), (24, .sl Y0 a1), (25, .agg [.int .i64 (a1_2.getD st1.1.toNat (0, 0, 0, 0, 0, 0)).1, .int .i64 (a1_2.getD st1.1.toNat (0, 0, 0, 0, 0, 0)).2.1, .int .i64 (a1_2.getD st1.1.toNat (0, 0, 0, 0, 0, 0)).2.2.1, .int .i64 (a1_2.getD st1.1.toNat (0, 0, 0, 0, 0, 0)).2.2.2.1, .int .i64 (a1_2.getD st1.1.toNat (0, 0, 0, 0, 0, 0)).2.2.2.2.1, .int .i64 (a1_2.getD st1.1.toNat (0, 0, 0, 0, 0, 0)).2.2.2.2.2])] [(6, .box 95 [.int .i64 a2.1.1, .int .i64 a2.1.2, .int .u64 a2.2]), (1000, .box 76 [.sl Y0 a1, .sl Y1 a1_2, .fn (.func 91) [] [], .one]), (1001, .box 95 [.int .i64 a2.1.1, .int .i64 a2.1.2, .int .u64 a2.2])] ?_
   obtain ⟨v0_2, hv13, h⟩ := Option.bind_eq_some_iff.1 h
   refine zG [] [(1000, 6)] (hc_history_states_allow a1 (a1_2.getD st1.1.toNat (0, 0, 0, 0, 0, 0)) a2 hv13) [(0, .fn (.yield lp) [] []), (1, .bp 1000 0), (2, .bp 1001 0), (4, .int .i64 st1.1), (6, .bp 6 0), (8, .sl Y1 a1_2), (9, .int .i64 (a1_2.length : Int)), (10, .int .i64 st1.1), (21, .bool false), (26, .bool v0_2.1)] [(6, .box 95 [.int .i64 v0_2.2.1, .int .i64 v0_2.2.2, .int .u64 a2.2]), (1000, .box 76 [.sl Y0 a1, .sl Y1 a1_2, .fn (.func 91) [] [], .one]), (1001, .box 95 [.int .i64 a2.1.1, .int .i64 a2.1.2, .int .u64 a2.2])] ?_
   refine zB [(0, .fn (.yield lp) [] []), (1, .bp 1000 0), (2, .bp 1001 0), (4, .int .i64 st1.1), (6, .bp 6 0), (8, .sl Y1 a1_2), (9, .int .i64 (a1_2.length : Int)), (10, .int .i64 st1.1), (28, .bool (!v0_2.1))] [(6, .box 95 [.int .i64 v0_2.2.1, .int .i64 v0_2.2.2, .int .u64 a2.2]), (1000, .box 76 [.sl Y0 a1, .sl Y1 a1_2, .fn (.func 91) [] [], .one]), (1001, .box 95 [.int .i64 a2.1.1, .int .i64 a2.1.2, .int .u64 a2.2])] ?_
   refine zQ h (fun hb14 h => ?_) (fun hb14 h => ?_)
   ·refine AW.exit ?_
    refine athen_e ?_
    refine ablock_s ?_
    refine athen_n ?_
    refine AW.ops ?_
    obtain ⟨c15, h⟩ := ck_some.1 h
    refine zA [(0, .fn (.yield lp) [] []), (1, .bp 1000 0), (2, .bp 1001 0), (8, .sl Y1 a1_2), (9, .int .i64 (a1_2.length : Int)), (10, .int .i64 (st1.1 + 1))] [(1000, .box 76 [.sl Y0 a1, .sl Y1 a1_2, .fn (.func 91) [] [], .one]), (1001, .box 95 [.int .i64 a2.1.1, .int .i64 a2.1.2, .int .u64 a2.2])] ?_
    obtain rfl := Option.some.inj h
    exact ⟨_, rfl, zL [] [] []⟩
   ·refine zk ?_
    refine AW.seq ?_
    refine AW.draw tab_ok mixed_ok [(6, [6])] [] (by decide) (by kernel_rfl) ?_
    obtain ⟨c17, h⟩ := ck_some.1 h
    refine adops_cut 6 (fun K' hK16 => ?_)
    try dsimp only [List.drop_succ_cons, List.drop_zero, List.take_succ_cons, List.take_zero]
    simp only [go_sem, hb6, hb10, hb14]
    repeat with_reducible refine zN ?_
    refine hK16 _ ?_
    refine adops_cut 1 (fun K' hK18 => ?_)
    try dsimp only [List.drop_succ_cons, List.drop_zero, List.take_succ_cons, List.take_zero]
    simp only [go_sem, hb6, hb10, hb14]
    repeat with_reducible refine zN ?_
    refine hK18 _ ?_
    refine adops_nil ?_
    refine athen_n ?_
    refine zV [(0, .fn (.yield lp) [] []), (1, .bp 1000 0), (2, .bp 1001 0), (4, .int .i64 st1.1), (6, .bp 6 0), (8, .sl Y1 a1_2), (9, .int .i64 (a1_2.length : Int)), (10, .int .i64 st1.1)] [(6, .box 95 [.int .i64 v0_2.2.1, .int .i64 v0_2.2.2, .int .u64 (ior .u64 a2.2 (ishl .u64 1 st1.1))]), (1000, .box 76 [.sl Y0 a1, .sl Y1 a1_2, .fn (.func 91) [] [], .one]), (1001, .box 95 [.int .i64 a2.1.1, .int .i64 a2.1.2, .int .u64 a2.2])] (Γ st1.2) ?_
    refine zo ?_
    refine zS 3 [(0, .fn (.yield lp) [] []), (1, .bp 1000 0), (2, .bp 1001 0), (8, .sl Y1 a1_2), (9, .int .i64 (a1_2.length : Int)), (10, .int .i64 st1.1), (35, .fn (.yield lp) [] []), (36, .int .i64 st1.1), (37, .agg [.int .i64 v0_2.2.1, .int .i64 v0_2.2.2, .int .u64 (ior .u64 a2.2 (ishl .u64 1 st1.1))])] [(1000, .box 76 [.sl Y0 a1, .sl Y1 a1_2, .fn (.func 91) [] [], .one]), (1001, .box 95 [.int .i64 a2.1.1, .int .i64 a2.1.2, .int .u64 a2.2])] ?_
    obtain ⟨x19, hx20, h⟩ := Option.bind_eq_some_iff.1 h
    refine yield_op rfl rfl rfl (by decide) _ rfl hY hΓ hΓx (st1.1, v0_2.2, (ior .u64 a2.2 (ishl .u64 1 st1.1))) [] (by (simp only [go_sem, hb6, hb10, hb14]) <;> (with_reducible and_intros) <;> first | assumption | rfl | omega | (unfold maxLen; omega)) hx20 ?_
    cases x19 with
    | next s =>
     try simp only at h
     refine zT [(0, .fn (.yield lp) [] []), (1, .bp 1000 0), (2, .bp 1001 0), (8, .sl Y1 a1_2), (9, .int .i64 (a1_2.length : Int)), (10, .int .i64 st1.1), (38, .bool true)] [(1000, .box 76 [.sl Y0 a1, .sl Y1 a1_2, .fn (.func 91) [] [], .one]), (1001, .box 95 [.int .i64 a2.1.1, .int .i64 a2.1.2, .int .u64 a2.2])] (Γ s) ?_
     refine zB [(0, .fn (.yield lp) [] []), (1, .bp 1000 0), (2, .bp 1001 0), (8, .sl Y1 a1_2), (9, .int .i64 (a1_2.length : Int)), (10, .int .i64 st1.1), (39, .bool false)] [(1000, .box 76 [.sl Y0 a1, .sl Y1 a1_2, .fn (.func 91) [] [], .one]), (1001, .box 95 [.int .i64 a2.1.1, .int .i64 a2.1.2, .int .u64 a2.2])] ?_
     refine AW.cond (b := false) rfl (fun hb21 => by cases hb21) (fun _ => ?_)
     refine zm ?_
     refine athen_n ?_
     refine AW.ops ?_
     obtain ⟨c22, h⟩ := ck_some.1 h
     refine zA [(0, .fn (.yield lp) [] []), (1, .bp 1000 0), (2, .bp 1001 0), (8, .sl Y1 a1_2), (9, .int .i64 (a1_2.length : Int)), (10, .int .i64 (st1.1 + 1))] [(1000, .box 76 [.sl Y0 a1, .sl Y1 a1_2, .fn (.func 91) [] [], .one]), (1001, .box 95 [.int .i64 a2.1.1, .int .i64 a2.1.2, .int .u64 a2.2])] ?_
     obtain rfl := Option.some.inj h
     exact ⟨_, rfl, zL [] [] []⟩
    | done e =>
     try simp only at h
     refine zT [(0, .fn (.yield lp) [] []), (1, .bp 1000 0), (2, .bp 1001 0), (8, .sl Y1 a1_2), (9, .int .i64 (a1_2.length : Int)), (10, .int .i64 st1.1), (38, .bool false)] [(1000, .box 76 [.sl Y0 a1, .sl Y1 a1_2, .fn (.func 91) [] [], .one]), (1001, .box 95 [.int .i64 a2.1.1, .int .i64 a2.1.2, .int .u64 a2.2])] (Γx e) ?_
     refine zB [(0, .fn (.yield lp) [] []), (1, .bp 1000 0), (2, .bp 1001 0), (8, .sl Y1 a1_2), (9, .int .i64 (a1_2.length : Int)), (10, .int .i64 st1.1), (39, .bool true)] [(1000, .box 76 [.sl Y0 a1, .sl Y1 a1_2, .fn (.func 91) [] [], .one]), (1001, .box 95 [.int .i64 a2.1.1, .int .i64 a2.1.2, .int .u64 a2.2])] ?_
     refine AW.cond (b := true) rfl (fun _ => ?_) (fun hb23 => by cases hb23)
     refine AW.ret ?_
     refine ablock_r ?_
     refine athen_r ?_
     obtain rfl := Option.some.inj h
     rw [← hd3 _ rfl] at ho2
     have h := ho2
     try simp only at h
     refine athen_r ?_
     refine ablock_r ?_
     obtain rfl := Option.some.inj h
     exact rfl
 ·refine AW.exit ?_
  refine athen_e ?_
  obtain rfl := Option.some.inj h
  rw [← hd3 _ rfl] at ho2
  have h := ho2
  try simp only at h
  refine athen_e ?_
  refine ablock_s ?_
  obtain rfl := Option.some.inj h
  exact rfl

theorem hc_history_search_count_2F (slf : ZS → ZH → ((Int × Int) × Int) → ZM → Option (Int × ZM)) (hc_slf : ∀ (s : ZS) (s_2 : ZH) (at0 : (Int × Int) × Int) (s_3 : ZM) {r : Int × ZM}, slf s s_2 at0 s_3 = some r → HC Try.prog 94 [(1000, .map true false Y2 (.int .i64) s_3)] [.agg [.sl Y0 s, .sl Y1 s_2, .fn (.func 91) [] [], .own 1000], .agg [.int .i64 at0.1.1, .int .i64 at0.1.2, .int .u64 at0.2]] [(1000, .map true false Y2 (.int .i64) r.2)] (.int .i64 r.1)) (s : ZS) (s_2 : ZH) (at0 : (Int × Int) × Int) (s_3 : ZM) {r : Int × ZM} (h : history_search_count_2F slf s s_2 at0 s_3 = some r) : HC Try.prog 94 [(1000, .map true false Y2 (.int .i64) s_3)] [.agg [.sl Y0 s, .sl Y1 s_2, .fn (.func 91) [] [], .own 1000], .agg [.int .i64 at0.1.1, .int .i64 at0.1.2, .int .u64 at0.2]] [(1000, .map true false Y2 (.int .i64) r.2)] (.int .i64 r.1) := by
 unfold history_search_count_2F at h
 refine zH Try.func94 [.tmp 4] 37 ?_
 refine zo ?_
 refine zB [(2, .bp 2 0), (3, .bp 3 0)] [(2, .box 76 [.sl Y0 s, .sl Y1 s_2, .fn (.func 91) [] [], .own 1000]), (3, .box 95 [.int .i64 at0.1.1, .int .i64 at0.1.2, .int .u64 at0.2]), (1000, .map true false Y2 (.int .i64) s_3)] ?_
 refine AW.seq ?_
 refine zo ?_
 refine zS 3 [(2, .bp 2 0), (3, .bp 3 0), (12, .own 1000), (13, .agg [.int .i64 at0.1.1, .int .i64 at0.1.2, .int .u64 at0.2])] [(2, .box 76 [.sl Y0 s, .sl Y1 s_2, .fn (.func 91) [] [], .own 1000]), (3, .box 95 [.int .i64 at0.1.1, .int .i64 at0.1.2, .int .u64 at0.2]), (1000, .map true false Y2 (.int .i64) s_3)] ?_
 obtain ⟨c1, h⟩ := ck_some.1 h
 obtain ⟨c2, h⟩ := ck_some.1 h
 obtain ⟨c3, h⟩ := ck_some.1 h
 refine AO.lookup mapty_74 (by decide) rfl rfl rfl rfl (l := [.int .i64 at0.1.1, .int .i64 at0.1.2, .int .u64 at0.2]) (by (simp only [go_sem]) <;> (with_reducible and_intros) <;> first | assumption | rfl | omega | (unfold maxLen; omega)) (by first | rfl | (simp only [go_sem]) <;> (with_reducible and_intros) <;> first | assumption | rfl | omega | (unfold maxLen; omega)) (by (simp only [go_sem]) <;> (with_reducible and_intros) <;> first | assumption | rfl | omega | (unfold maxLen; omega)) ?_
 refine zT [(2, .bp 2 0), (3, .bp 3 0), (14, .tup [.int .i64 (mget 0 s_3 at0), .bool (mhas s_3 at0)])] [(2, .box 76 [.sl Y0 s, .sl Y1 s_2, .fn (.func 91) [] [], .own 1000]), (3, .box 95 [.int .i64 at0.1.1, .int .i64 at0.1.2, .int .u64 at0.2]), (1000, .map true false Y2 (.int .i64) s_3)] gt ?_
 refine zB [(2, .bp 2 0), (3, .bp 3 0), (5, .int .i64 (mget 0 s_3 at0)), (6, .bool (mhas s_3 at0))] [(2, .box 76 [.sl Y0 s, .sl Y1 s_2, .fn (.func 91) [] [], .own 1000]), (3, .box 95 [.int .i64 at0.1.1, .int .i64 at0.1.2, .int .u64 at0.2]), (1000, .map true false Y2 (.int .i64) s_3)] ?_
 refine zo ?_
 refine zB [(2, .bp 2 0), (3, .bp 3 0), (5, .int .i64 (mget 0 s_3 at0)), (17, .bool (mhas s_3 at0))] [(2, .box 76 [.sl Y0 s, .sl Y1 s_2, .fn (.func 91) [] [], .own 1000]), (3, .box 95 [.int .i64 at0.1.1, .int .i64 at0.1.2, .int .u64 at0.2]), (1000, .map true false Y2 (.int .i64) s_3)] ?_
 refine zQ h (fun hb4 h => ?_) (fun hb4 h => ?_)
 ·refine zo ?_
  refine zB [(4, .int .i64 (mget 0 s_3 at0))] [(1000, .map true false Y2 (.int .i64) s_3)] ?_
  refine zr ?_
  obtain rfl := Option.some.inj h
  exact zR [] [] []
 ·refine zk ?_
  refine zo ?_
  refine zB [(2, .bp 2 0), (3, .bp 3 0), (7, .bp 7 0)] [(2, .box 76 [.sl Y0 s, .sl Y1 s_2, .fn (.func 91) [] [], .own 1000]), (3, .box 95 [.int .i64 at0.1.1, .int .i64 at0.1.2, .int .u64 at0.2]), (7, .box 3 [.int .i64 0]), (1000, .map true false Y2 (.int .i64) s_3)] ?_
  refine AW.have1 (fun b1 : Int => history_search_count_2_k1 slf s s_2 at0 s_3 b1 = some r) (fun b1 => ⟨fr [(2, .bp 2 0), (3, .bp 3 0), (7, .bp 7 0)], hpGet [(2, .box 76 [.sl Y0 s, .sl Y1 s_2, .fn (.func 91) [] [], .own 1000]), (3, .box 95 [.int .i64 at0.1.1, .int .i64 at0.1.2, .int .u64 at0.2]), (7, .box 3 [.int .i64 b1]), (1000, .map true false Y2 (.int .i64) s_3)], gt⟩) (fun b1 h => ?_) (fun hk_history_search_count_2_k1 => ?_)
  ·unfold history_search_count_2_k1 at h
   refine AW.have1 (fun b2 : ZM × Int => history_search_count_2_k2 at0 b2 = some r) (fun b2 => ⟨fr [(2, .bp 2 0), (3, .bp 3 0), (7, .bp 7 0)], hpGet [(2, .box 76 [.sl Y0 s, .sl Y1 s_2, .fn (.func 91) [] [], .own 1000]), (3, .box 95 [.int .i64 at0.1.1, .int .i64 at0.1.2, .int .u64 at0.2]), (7, .box 3 [.int .i64 b2.2]), (1000, .map true false Y2 (.int .i64) b2.1)], gt⟩) (fun b2 h => ?_) (fun hk_history_search_count_2_k2 => ?_)
   ·unfold history_search_count_2_k2 at h
    refine zo ?_
    refine zS 4 [(7, .bp 7 0), (33, .own 1000), (34, .agg [.int .i64 at0.1.1, .int .i64 at0.1.2, .int .u64 at0.2]), (35, .int .i64 b2.2)] [(7, .box 3 [.int .i64 b2.2]), (1000, .map true false Y2 (.int .i64) b2.1)] ?_
    obtain ⟨c5, h⟩ := ck_some.1 h
    obtain ⟨c6, h⟩ := ck_some.1 h
    obtain ⟨c7, h⟩ := ck_some.1 h
    refine AO.mapPut mapty_74 (by decide) rfl (.inl rfl) rfl rfl (l := [.int .i64 at0.1.1, .int .i64 at0.1.2, .int .u64 at0.2]) (by (simp only [go_sem, hb4]) <;> (with_reducible and_intros) <;> first | assumption | rfl | omega | (unfold maxLen; omega)) (by first | rfl | (simp only [go_sem, hb4]) <;> (with_reducible and_intros) <;> first | assumption | rfl | omega | (unfold maxLen; omega)) (by (simp only [go_sem, hb4]) <;> (with_reducible and_intros) <;> first | assumption | rfl | omega | (unfold maxLen; omega)) (lv := [.int .i64 b2.2]) (by (simp only [go_sem, hb4]) <;> (with_reducible and_intros) <;> first | assumption | rfl | omega | (unfold maxLen; omega)) (by first | rfl | (simp only [go_sem, hb4]) <;> (with_reducible and_intros) <;> first | assumption | rfl | omega | (unfold maxLen; omega)) ?_
    refine zT [(7, .bp 7 0)] [(7, .box 3 [.int .i64 b2.2]), (1000, .map true false Y2 (.int .i64) (mput b2.1 at0 b2.2))] gt ?_
    refine zB [(7, .bp 7 0)] [(7, .box 3 [.int .i64 b2.2]), (1000, .map true false Y2 (.int .i64) (mput b2.1 at0 b2.2))] ?_
    refine zo ?_
    refine zB [(4, .int .i64 b2.2)] [(1000, .map true false Y2 (.int .i64) (mput b2.1 at0 b2.2))] ?_
    refine AW.ret ?_
    obtain rfl := Option.some.inj h
    exact zR [] [] []
   ·refine AW.seq ?_
    refine zo ?_
    refine zS 2 [(2, .bp 2 0), (3, .bp 3 0), (7, .bp 7 0), (22, .agg [.sl Y0 s, .sl Y1 s_2, .fn (.func 91) [] [], .own 1000]), (23, .agg [.int .i64 at0.1.1, .int .i64 at0.1.2, .int .u64 at0.2])] [(2, .box 76 [.sl Y0 s, .sl Y1 s_2, .fn (.func 91) [] [], .own 1000]), (3, .box 95 [.int .i64 at0.1.1, .int .i64 at0.1.2, .int .u64 at0.2]), (7, .box 3 [.int .i64 b1]), (1000, .map true false Y2 (.int .i64) s_3)] ?_
    obtain ⟨v0_2, hv8, h⟩ := Option.bind_eq_some_iff.1 h
    refine zC [] [] (hc_history_search_steps_2 s s_2 at0 hv8) [(2, .bp 2 0), (3, .bp 3 0), (7, .bp 7 0), (24, .fn (.func 127) [] [.bp 34000 0, .bp 34001 0])] [(2, .box 76 [.sl Y0 s, .sl Y1 s_2, .fn (.func 91) [] [], .own 1000]), (3, .box 95 [.int .i64 at0.1.1, .int .i64 at0.1.2, .int .u64 at0.2]), (7, .box 3 [.int .i64 b1]), (1000, .map true false Y2 (.int .i64) s_3), (34000, .box 76 [.sl Y0 s, .sl Y1 s_2, .fn (.func 91) [] [], .one]), (34001, .box 95 [.int .i64 at0.1.1, .int .i64 at0.1.2, .int .u64 at0.2])] ?_
    refine zB [(2, .bp 2 0), (3, .bp 3 0), (7, .bp 7 0), (24, .fn (.func 127) [] [.bp 34000 0, .bp 34001 0])] [(2, .box 76 [.sl Y0 s, .sl Y1 s_2, .fn (.func 91) [] [], .own 1000]), (3, .box 95 [.int .i64 at0.1.1, .int .i64 at0.1.2, .int .u64 at0.2]), (7, .box 3 [.int .i64 b1]), (1000, .map true false Y2 (.int .i64) s_3), (34000, .box 76 [.sl Y0 s, .sl Y1 s_2, .fn (.func 91) [] [], .one]), (34001, .box 95 [.int .i64 at0.1.1, .int .i64 at0.1.2, .int .u64 at0.2])] ?_
    refine AW.block ?_
    obtain ⟨x9, hx10, h⟩ := Option.bind_eq_some_iff.1 h
    refine AW.weaken (s' := ⟨fr [(2, .bp 2 0), (3, .bp 3 0), (7, .bp 7 0), (24, .fn (.func 127) [] [.bp 34000 0, .bp 34001 0])], hpGet ([(34000, .box 76 [.sl Y0 s, .sl Y1 s_2, .fn (.func 91) [] [], .one]), (34001, .box 95 [.int .i64 at0.1.1, .int .i64 at0.1.2, .int .u64 at0.2])] ++ [(2, .box 76 [.sl Y0 s, .sl Y1 s_2, .fn (.func 91) [] [], .own 1000]), (3, .box 95 [.int .i64 at0.1.1, .int .i64 at0.1.2, .int .u64 at0.2]), (7, .box 3 [.int .i64 b1]), (1000, .map true false Y2 (.int .i64) s_3)]), gt⟩) (zL [] [] []) ?_
    refine AW.rangeF (R := Empty) (l0 := [(2, .bp 2 0), (3, .bp 3 0), (7, .bp 7 0)]) (hI := [(34000, .box 76 [.sl Y0 s, .sl Y1 s_2, .fn (.func 91) [] [], .one]), (34001, .box 95 [.int .i64 at0.1.1, .int .i64 at0.1.2, .int .u64 at0.2])]) (h0 := fun (st1 : ZM × Int) => [(2, .box 76 [.sl Y0 s, .sl Y1 s_2, .fn (.func 91) [] [], .own 1000]), (3, .box 95 [.int .i64 at0.1.1, .int .i64 at0.1.2, .int .u64 at0.2]), (7, .box 3 [.int .i64 st1.2]), (1000, .map true false Y2 (.int .i64) st1.1)]) (gg := fun (st1 : ZM × Int) => gt) (hx0 := (fun (r : Empty) => r.elim)) (gx := (fun (r : Empty) => r.elim)) (ex := (fun (r : Empty) => r.elim)) (s_3, b1) [(34000, 1000), (34001, 1001)] [(1000, 34000), (1001, 34001)] [(2, 1900), (3, 1901), (7, 1902)] [(1900, 2), (1901, 3), (1902, 7)] (by decide) rfl (by first | exact (ic_history_search_steps_1_2 s s_2 at0 (history_search_count_2_y1 slf s s_2) (s_3, b1) hx10) | simpa only [go_sem] using (ic_history_search_steps_1_2 s s_2 at0 (history_search_count_2_y1 slf s s_2) (s_3, b1) hx10)) (by (simp only [go_sem, hb4]) <;> (with_reducible and_intros) <;> first | assumption | rfl | omega | (unfold maxLen; omega)) rfl rfl rfl (fun _ => rfl) rfl (fun r => r.elim) rfl (fun r => r.elim) (fun r => r.elim) (fun _ => rfl) (fun _ => rfl) rfl (fun _ _ => by first | rfl | (exact (hΓ _).trans (hΓ _).symm) | (exact (hΓx _).trans (hΓ _).symm)) (fun _ r => r.elim) ?_ ?_
    ·intro lpy1 y1 st1 x11 h
     unfold history_search_count_2_y1 at h
     refine zV [(2, .bp 1900 0), (3, .bp 1901 0), (7, .bp 1902 0), (25, .int .i64 y1.1), (26, .agg [.int .i64 y1.2.1.1, .int .i64 y1.2.1.2, .int .u64 y1.2.2])] [(1000, .map true false Y2 (.int .i64) st1.1), (1900, .box 76 [.sl Y0 s, .sl Y1 s_2, .fn (.func 91) [] [], .own 1000]), (1901, .box 95 [.int .i64 at0.1.1, .int .i64 at0.1.2, .int .u64 at0.2]), (1902, .box 3 [.int .i64 st1.2])] gt ?_
     refine AW.ops ?_
     refine zA [(2, .bp 1900 0), (3, .bp 1901 0), (7, .bp 1902 0), (9, .bp 9 0)] [(9, .box 95 [.int .i64 y1.2.1.1, .int .i64 y1.2.1.2, .int .u64 y1.2.2]), (1000, .map true false Y2 (.int .i64) st1.1), (1900, .box 76 [.sl Y0 s, .sl Y1 s_2, .fn (.func 91) [] [], .own 1000]), (1901, .box 95 [.int .i64 at0.1.1, .int .i64 at0.1.2, .int .u64 at0.2]), (1902, .box 3 [.int .i64 st1.2])] ?_
     refine And.intro rfl ?_
     refine AW.block ?_
     refine AW.draw tab_ok mixed_ok [(3, [1000]), (5, [1902])] [(0, [1902]), (100005, [])] (by decide) (by kernel_rfl) ?_
     refine adops_cut 3 (fun K' hK12 => ?_)
     try dsimp only [List.drop_succ_cons, List.drop_zero, List.take_succ_cons, List.take_zero]
     simp only [go_sem, hb4]
     repeat with_reducible refine zN ?_
     refine hK12 _ ?_
     obtain ⟨v0_3, hv13, h⟩ := Option.bind_eq_some_iff.1 h
     refine adops.call (by first | trivial | rfl) rfl rfl rfl (fun _ h => h) [] [(1000, 1000)] (hc_slf s s_2 y1.2 st1.1 hv13) rfl (by (simp only [go_sem, hb4]) <;> (with_reducible and_intros) <;> first | assumption | rfl | omega | (unfold maxLen; omega)) (by (simp only [go_sem, hb4]) <;> (with_reducible and_intros) <;> first | assumption | rfl | omega | (unfold maxLen; omega)) rfl ?_
     obtain ⟨c15, h⟩ := ck_some.1 h
     refine adops_cut 2 (fun K' hK14 => ?_)
     try dsimp only [List.drop_succ_cons, List.drop_zero, List.take_succ_cons, List.take_zero]
     simp only [go_sem, hb4]
     repeat with_reducible refine zN ?_
     refine hK14 _ ?_
     refine adops_nil ?_
     refine ablock_n ?_
     obtain rfl := Option.some.inj h
     exact rpost_next rfl [] [] [] rfl (by (simp only [go_sem, hb4]) <;> (with_reducible and_intros) <;> first | assumption | rfl | omega | (unfold maxLen; omega))
    ·cases x9 with
     | inl st1_2 =>
      try simp only at h
      refine ablock_n ?_
      refine athen_n ?_
      exact AW.weaken (zL [] [] []) (hk_history_search_count_2_k2 _ h)
     | inr rx =>
      exact rx.elim
  ·refine AW.seq ?_
   refine zo ?_
   refine zS 2 [(2, .bp 2 0), (3, .bp 3 0), (7, .bp 7 0), (19, .agg [.sl Y0 s, .sl Y1 s_2, .fn (.func 91) [] [], .own 1000]), (20, .agg [.int .i64 at0.1.1, .int .i64 at0.1.2, .int .u64 at0.2])] [(2, .box 76 [.sl Y0 s, .sl Y1 s_2, .fn (.func 91) [] [], .own 1000]), (3, .box 95 [.int .i64 at0.1.1, .int .i64 at0.1.2, .int .u64 at0.2]), (7, .box 3 [.int .i64 0]), (1000, .map true false Y2 (.int .i64) s_3)] ?_
   obtain ⟨v0, hv16, h⟩ := Option.bind_eq_some_iff.1 h
   refine zC [] [] (hc_history_search_full_2 s s_2 at0 hv16) [(2, .bp 2 0), (3, .bp 3 0), (7, .bp 7 0), (21, .bool v0)] [(2, .box 76 [.sl Y0 s, .sl Y1 s_2, .fn (.func 91) [] [], .own 1000]), (3, .box 95 [.int .i64 at0.1.1, .int .i64 at0.1.2, .int .u64 at0.2]), (7, .box 3 [.int .i64 0]), (1000, .map true false Y2 (.int .i64) s_3)] ?_
   refine zB [(2, .bp 2 0), (3, .bp 3 0), (7, .bp 7 0), (21, .bool v0)] [(2, .box 76 [.sl Y0 s, .sl Y1 s_2, .fn (.func 91) [] [], .own 1000]), (3, .box 95 [.int .i64 at0.1.1, .int .i64 at0.1.2, .int .u64 at0.2]), (7, .box 3 [.int .i64 0]), (1000, .map true false Y2 (.int .i64) s_3)] ?_
   refine zQ h (fun hb17 h => ?_) (fun hb17 h => ?_)
   ·refine AW.ops ?_
    refine zB [(2, .bp 2 0), (3, .bp 3 0), (7, .bp 7 0)] [(2, .box 76 [.sl Y0 s, .sl Y1 s_2, .fn (.func 91) [] [], .own 1000]), (3, .box 95 [.int .i64 at0.1.1, .int .i64 at0.1.2, .int .u64 at0.2]), (7, .box 3 [.int .i64 1]), (1000, .map true false Y2 (.int .i64) s_3)] ?_
    exact AW.weaken (zL [] [] []) (hk_history_search_count_2_k1 _ h)
   ·refine zk ?_
    exact AW.weaken (zL [] [] []) (hk_history_search_count_2_k1 _ h)

theorem hc_history_search_count_2 : ∀ (n : Nat) (s : ZS) (s_2 : ZH) (at0 : (Int × Int) × Int) (s_3 : ZM) {r : Int × ZM}, history_search_count_2 n s s_2 at0 s_3 = some r → HC Try.prog 94 [(1000, .map true false Y2 (.int .i64) s_3)] [.agg [.sl Y0 s, .sl Y1 s_2, .fn (.func 91) [] [], .own 1000], .agg [.int .i64 at0.1.1, .int .i64 at0.1.2, .int .u64 at0.2]] [(1000, .map true false Y2 (.int .i64) r.2)] (.int .i64 r.1) := by
 intro n
 induction n with
 | zero => intro s s_2 at0 s_3 r h; cases h
 | succ n ih => intro s s_2 at0 s_3 r h; exact hc_history_search_count_2F (history_search_count_2 n) ih s s_2 at0 s_3 h

theorem hc_history_Orderly_1 (a0 : ZS) (a1 : ZH) {r : Bool} (h : history_Orderly_1 a0 a1 = some r) : HC Try.prog 95 [(1000, .box 22 [.sl Y0 a0]), (1001, .box 23 [.sl Y1 a1])] [.bp 1000 0, .bp 1001 0] [(1000, .box 22 [.sl Y0 a0]), (1001, .box 23 [.sl Y1 a1])] (.bool r) := by
 unfold history_Orderly_1 at h
 refine zH Try.func95 [.tmp 2] 9 ?_
 refine zo ?_
 refine zB [(0, .bp 1000 0), (1, .bp 1001 0)] [(1000, .box 22 [.sl Y0 a0]), (1001, .box 23 [.sl Y1 a1])] ?_
 refine zo ?_
 refine zS 2 [(3, .sl Y0 a0), (4, .sl Y1 a1)] [(1000, .box 22 [.sl Y0 a0]), (1001, .box 23 [.sl Y1 a1])] ?_
 obtain ⟨v0, hv1, h⟩ := Option.bind_eq_some_iff.1 h
 refine zC [] [] (hc_history_newSearch_2 a0 a1 hv1) [(5, .agg [.sl Y0 a0, .sl Y1 a1, .fn (.func 91) [] [], .own 15000])] [(1000, .box 22 [.sl Y0 a0]), (1001, .box 23 [.sl Y1 a1]), (15000, .map true false Y2 (.int .i64) [])] ?_
 refine zS 1 [(5, .agg [.sl Y0 a0, .sl Y1 a1, .fn (.func 91) [] [], .own 15000]), (6, .agg [.int .i64 0, .int .i64 0, .int .u64 0])] [(1000, .box 22 [.sl Y0 a0]), (1001, .box 23 [.sl Y1 a1]), (15000, .map true false Y2 (.int .i64) [])] ?_
 obtain ⟨v0_2, hv2, h⟩ := Option.bind_eq_some_iff.1 h
 refine zC [] [(1000, 15000)] (hc_history_search_count_2 fuel a0 a1 ((0, 0), 0) [] hv2) [(7, .int .i64 v0_2.1)] [(1000, .box 22 [.sl Y0 a0]), (1001, .box 23 [.sl Y1 a1])] ?_
 refine zB [(2, .bool (decide (0 < v0_2.1)))] [(1000, .box 22 [.sl Y0 a0]), (1001, .box 23 [.sl Y1 a1])] ?_
 refine AW.ret ?_
 obtain rfl := Option.some.inj h
 exact zR [] [] []

theorem hc_history_told_27 (c0 : ZS) (c1 : ZH) {r : Bool} (h : history_told_27 c0 c1 = some r) : HC Try.prog 58 [(1000, .box 22 [.sl Y0 c0]), (1001, .box 23 [.sl Y1 c1])] [.int .i64 0, .fn (.func 95) [] [.bp 1000 0, .bp 1001 0]] [(1000, .box 22 [.sl Y0 c0]), (1001, .box 23 [.sl Y1 c1])] (.tup [.bool r, .int .i64 0]) := by
 unfold history_told_27 at h
 refine zH Try.func58 [.tmp 4, .tmp 5] 13 ?_
 refine zo ?_
 refine zB [(0, .int .i64 0), (1, .fn (.func 95) [] [.bp 1000 0, .bp 1001 0])] [(1000, .box 22 [.sl Y0 c0]), (1001, .box 23 [.sl Y1 c1])] ?_
 refine AW.seq ?_
 refine zo ?_
 refine zB [(0, .int .i64 0), (1, .fn (.func 95) [] [.bp 1000 0, .bp 1001 0]), (8, .bool false)] [(1000, .box 22 [.sl Y0 c0]), (1001, .box 23 [.sl Y1 c1])] ?_
 refine AW.cond (b := false) rfl (fun hb1 => by cases hb1) (fun _ => ?_)
 refine zk ?_
 refine zo ?_
 refine zS 1 [(11, .fn (.func 95) [] [.bp 1000 0, .bp 1001 0])] [(1000, .box 22 [.sl Y0 c0]), (1001, .box 23 [.sl Y1 c1])] ?_
 obtain ⟨v0, hv2, h⟩ := Option.bind_eq_some_iff.1 h
 refine zC [] [(1000, 1000), (1001, 1001)] (hc_history_Orderly_1 c0 c1 hv2) [(12, .bool v0)] [(1000, .box 22 [.sl Y0 c0]), (1001, .box 23 [.sl Y1 c1])] ?_
 refine zB [(4, .bool v0), (5, .int .i64 0)] [(1000, .box 22 [.sl Y0 c0]), (1001, .box 23 [.sl Y1 c1])] ?_
 refine AW.ret ?_
 obtain rfl := Option.some.inj h
 exact zR [] [] []

theorem hc_history_told_28 (err : Int) (c0 : ZS) (c1 : ZH) (hnz_err : decide (err = 0) = false) {r : Unit} (h : history_told_28 err c0 c1 = some r) : HC Try.prog 58 [(1000, .box 22 [.sl Y0 c0]), (1001, .box 23 [.sl Y1 c1])] [.int .i64 err, .fn (.func 95) [] [.bp 1000 0, .bp 1001 0]] [(1000, .box 22 [.sl Y0 c0]), (1001, .box 23 [.sl Y1 c1])] (.tup [.bool false, .int .i64 err]) := by
 unfold history_told_28 at h
 refine zH Try.func58 [.tmp 4, .tmp 5] 13 ?_
 refine zo ?_
 refine zB [(0, .int .i64 err), (1, .fn (.func 95) [] [.bp 1000 0, .bp 1001 0])] [(1000, .box 22 [.sl Y0 c0]), (1001, .box 23 [.sl Y1 c1])] ?_
 refine AW.seq ?_
 refine zo ?_
 refine zB [(0, .int .i64 err), (1, .fn (.func 95) [] [.bp 1000 0, .bp 1001 0]), (8, .bool true)] [(1000, .box 22 [.sl Y0 c0]), (1001, .box 23 [.sl Y1 c1])] ?_
 refine AW.cond (b := true) rfl (fun _ => ?_) (fun hb1 => by cases hb1)
 refine zo ?_
 refine zB [(0, .int .i64 err), (6, .bool false)] [(1000, .box 22 [.sl Y0 c0]), (1001, .box 23 [.sl Y1 c1])] ?_
 refine zo ?_
 refine zB [(4, .bool false), (5, .int .i64 err)] [(1000, .box 22 [.sl Y0 c0]), (1001, .box 23 [.sl Y1 c1])] ?_
 refine zr ?_
 obtain rfl := Option.some.inj h
 exact zR [] [] []

theorem hc_history_Orderly (specs : ZS) (h0 : ZH) {r : Bool × Int} (h : history_Orderly specs h0 = some r) : HC Try.prog 37 [] [.sl Y0 specs, .sl Y1 h0] [] (.tup [.bool r.1, .int .i64 r.2]) := by
 unfold history_Orderly at h
 refine zH Try.func37 [.tmp 4, .tmp 5] 13 ?_
 refine zo ?_
 refine zB [(2, .bp 2 0), (3, .bp 3 0)] [(2, .box 22 [.sl Y0 specs]), (3, .box 23 [.sl Y1 h0])] ?_
 refine zo ?_
 refine zS 2 [(2, .bp 2 0), (3, .bp 3 0), (6, .sl Y0 specs), (7, .sl Y1 h0)] [(2, .box 22 [.sl Y0 specs]), (3, .box 23 [.sl Y1 h0])] ?_
 obtain ⟨v0, hv1, h⟩ := Option.bind_eq_some_iff.1 h
 refine zC [] [] (hc_history_checkFor specs h0 hv1) [(2, .bp 2 0), (3, .bp 3 0), (8, .int .i64 v0)] [(2, .box 22 [.sl Y0 specs]), (3, .box 23 [.sl Y1 h0])] ?_
 refine zS 1 [(8, .int .i64 v0), (9, .fn (.func 95) [] [.bp 2 0, .bp 3 0])] [(2, .box 22 [.sl Y0 specs]), (3, .box 23 [.sl Y1 h0])] ?_
 rcases Bool.eq_false_or_eq_true (decide (v0 = 0)) with hb2 | hb2
 ·rw [if_pos hb2] at h
  have hz3 : v0 = 0 := by simpa using hb2
  refine zT [(8, .int .i64 0), (9, .fn (.func 95) [] [.bp 2 0, .bp 3 0])] [(2, .box 22 [.sl Y0 specs]), (3, .box 23 [.sl Y1 h0])] gt ?_
  obtain ⟨v0_2, hv4, h⟩ := Option.bind_eq_some_iff.1 h
  refine zC [] [(1000, 2), (1001, 3)] (hc_history_told_27 specs h0 hv4) [(10, .tup [.bool v0_2, .int .i64 0])] [] ?_
  refine zB [(4, .bool v0_2), (5, .int .i64 0)] [] ?_
  refine AW.ret ?_
  obtain rfl := Option.some.inj h
  exact zR [] [] []
 ·rw [if_neg (Bool.eq_false_iff.1 hb2)] at h
  refine zT [(8, .int .i64 v0), (9, .fn (.func 95) [] [.bp 2 0, .bp 3 0])] [(2, .box 22 [.sl Y0 specs]), (3, .box 23 [.sl Y1 h0])] gt ?_
  obtain ⟨v0_3, hv5, h⟩ := Option.bind_eq_some_iff.1 h
  refine zC [] [(1000, 2), (1001, 3)] (hc_history_told_28 v0 specs h0 hb2 hv5) [(10, .tup [.bool false, .int .i64 v0])] [] ?_
  refine zB [(4, .bool false), (5, .int .i64 v0)] [] ?_
  refine AW.ret ?_
  obtain rfl := Option.some.inj h
  exact zR [] [] []

theorem hc_lineallaw02_comes (a : List Int) (b : List Int) {r : Bool} (h : lineallaw02_comes a b = some r) : HC Try.prog 57 [] [.sl (.int .i64) a, .sl (.int .i64) b] [] (.bool r) := by
 unfold lineallaw02_comes at h
 refine zH Try.func57 [.tmp 4] 41 ?_
 refine zo ?_
 refine zB [(0, .sl (.int .i64) a), (1, .sl (.int .i64) b)] [] ?_
 refine AW.have1 (fun _ : Unit => lineallaw02_comes_k1 a b = some r) (fun _ => ⟨fr [(0, .sl (.int .i64) a), (1, .sl (.int .i64) b)], hpGet [], gt⟩) (fun _ h => ?_) (fun hk_lineallaw02_comes_k1 => ?_)
 ·unfold lineallaw02_comes_k1 at h
  refine zo ?_
  refine zB [(4, .bool (decide ((a.length : Int) < (b.length : Int))))] [] ?_
  refine AW.ret ?_
  obtain rfl := Option.some.inj h
  exact zR [] [] []
 ·refine AW.seq ?_
  refine zo ?_
  refine zB [(0, .sl (.int .i64) a), (1, .sl (.int .i64) b), (5, .int .i64 0)] [] ?_
  refine AW.block ?_
  obtain ⟨rv5, hw1, ho2⟩ := Option.bind_eq_some_iff.1 h
  refine AW.loopO (lineallaw02_comes_b1 a b) (fun st1 => ⟨fr [(0, .sl (.int .i64) a), (1, .sl (.int .i64) b), (5, .int .i64 st1)], hpGet [], gt⟩) 0 hw1 (zL [] [] []) ?_
  intro st1 x4 h hd3
  unfold lineallaw02_comes_b1 at h
  refine AW.seq ?_
  refine zo ?_
  refine zS 5 [(0, .sl (.int .i64) a), (1, .sl (.int .i64) b), (5, .int .i64 st1), (10, .bool (decide (st1 < (a.length : Int))))] [] ?_
  rcases zI h with ⟨hb6, h⟩ | ⟨hb6, h⟩
  ·refine zB [(0, .sl (.int .i64) a), (1, .sl (.int .i64) b), (5, .int .i64 st1), (15, .bool (decide (st1 < (b.length : Int))))] [] ?_
   refine zQ h (fun hb7 h => ?_) (fun hb7 h => ?_)
   ·refine zk ?_
    refine AW.seq ?_
    refine AW.block ?_
    refine AW.seq ?_
    refine AW.draw tab_ok mixed_ok [] [] (by decide) (by kernel_rfl) ?_
    obtain ⟨c9, h⟩ := ck_some.1 h
    obtain ⟨c10, h⟩ := ck_some.1 h
    refine adops_cut 6 (fun K' hK8 => ?_)
    try dsimp only [List.drop_succ_cons, List.drop_zero, List.take_succ_cons, List.take_zero]
    simp only [go_sem, hb6, hb7]
    repeat with_reducible refine zN ?_
    refine hK8 _ ?_
    obtain ⟨c12, h⟩ := ck_some.1 h
    obtain ⟨c13, h⟩ := ck_some.1 h
    refine adops_cut 3 (fun K' hK11 => ?_)
    try dsimp only [List.drop_succ_cons, List.drop_zero, List.take_succ_cons, List.take_zero]
    simp only [go_sem, hb6, hb7]
    repeat with_reducible refine zN ?_
    refine hK11 _ ?_
    refine adops_nil ?_
    refine athen_n ?_
    refine zV [(0, .sl (.int .i64) a), (1, .sl (.int .i64) b), (5, .int .i64 st1), (26, .bool (!(decide ((a.getD st1.toNat 0) = (b.getD st1.toNat 0)))))] [] gt ?_
    refine zQ h (fun hb14 h => ?_) (fun hb14 h => ?_)
    ·refine AW.seq ?_
     refine AW.draw tab_ok mixed_ok [] [] (by decide) (by kernel_rfl) ?_
     obtain ⟨c16, h⟩ := ck_some.1 h
     obtain ⟨c17, h⟩ := ck_some.1 h
     refine adops_cut 6 (fun K' hK15 => ?_)
     try dsimp only [List.drop_succ_cons, List.drop_zero, List.take_succ_cons, List.take_zero]
     simp only [go_sem, hb6, hb7, hb14]
     repeat with_reducible refine zN ?_
     refine hK15 _ ?_
     obtain ⟨c19, h⟩ := ck_some.1 h
     obtain ⟨c20, h⟩ := ck_some.1 h
     refine adops_cut 4 (fun K' hK18 => ?_)
     try dsimp only [List.drop_succ_cons, List.drop_zero, List.take_succ_cons, List.take_zero]
     simp only [go_sem, hb6, hb7, hb14]
     repeat with_reducible refine zN ?_
     refine hK18 _ ?_
     refine adops_nil ?_
     refine athen_n ?_
     refine zV [(4, .bool (decide ((a.getD st1.toNat 0) < (b.getD st1.toNat 0))))] [] gt ?_
     refine AW.ret ?_
     refine ablock_r ?_
     refine athen_r ?_
     obtain rfl := Option.some.inj h
     rw [← hd3 _ rfl] at ho2
     have h := ho2
     try simp only at h
     refine athen_r ?_
     refine ablock_r ?_
     refine athen_r ?_
     obtain rfl := Option.some.inj h
     exact zR [] [] []
    ·refine zm ?_
     refine athen_n ?_
     refine AW.ops ?_
     obtain ⟨c21, h⟩ := ck_some.1 h
     refine zA [(0, .sl (.int .i64) a), (1, .sl (.int .i64) b), (5, .int .i64 (st1 + 1))] [] ?_
     obtain rfl := Option.some.inj h
     exact ⟨_, rfl, zL [] [] []⟩
   ·refine AW.exit ?_
    refine athen_e ?_
    obtain rfl := Option.some.inj h
    rw [← hd3 _ rfl] at ho2
    have h := ho2
    try simp only at h
    refine athen_e ?_
    refine ablock_s ?_
    refine athen_n ?_
    exact AW.weaken (zL [] [] []) (hk_lineallaw02_comes_k1 () h)
  ·refine zS 4 [(0, .sl (.int .i64) a), (1, .sl (.int .i64) b), (5, .int .i64 st1), (10, .bool false), (14, .cv (undef))] [] ?_
   refine zB [(0, .sl (.int .i64) a), (1, .sl (.int .i64) b), (5, .int .i64 st1), (15, .bool false)] [] ?_
   refine AW.cond (b := false) rfl (fun hb22 => by cases hb22) (fun _ => ?_)
   refine AW.exit ?_
   refine athen_e ?_
   obtain rfl := Option.some.inj h
   rw [← hd3 _ rfl] at ho2
   have h := ho2
   try simp only at h
   refine athen_e ?_
   refine ablock_s ?_
   refine athen_n ?_
   exact AW.weaken (zL [] [] []) (hk_lineallaw02_comes_k1 () h)

end Go.Proofs.Ytlfpagicagmjgaa
