/-
  Made by wip/tool/dc.py out of the print of the program: contracts.
-/
import Derived.Test.YtdicomoggfhbfaaDlp
import Derived.Test.YtdicomoggfhbfaaShd
import Derived.Test.YtdicomoggfhbfaaDkc4
import Derived.Test.YtdicomoggfhbfaaDkc6
import Derived.Test.YtdicomoggfhbfaaDkc7
import Derived.Test.YtdicomoggfhbfaaDkc9
namespace Go.Proofs.Ytdicomoggfhbfaa
open Go.RowKit

set_option linter.unusedSimpArgs false
set_option linter.unusedVariables false
set_option linter.constructorNameAsVariable false

set_option maxRecDepth 100000
set_option maxHeartbeats 40000000

theorem hc_delay_offer_most (o : (List (List (Int × Bool))) × (List (Int × Int × Int)) × (List (List Int))) (pair : Int × Int × Int) (prices : List Int) {r : Int} (h : delay_offer_most o pair prices = some r) : HC Try.prog 136 [] [.agg [.sl (.sl (.pair (.int .i64) .bool)) o.1, .sl (.pair (.int .i64) (.pair (.int .i64) (.int .i64))) o.2.1, .sl (.sl (.int .i64)) o.2.2], .agg [.int .i64 pair.1, .int .i64 pair.2.1, .int .i64 pair.2.2], .sl (.int .i64) prices] [] (.int .i64 r) := by
 unfold delay_offer_most at h
 refine zH Try.func136 [.tmp 6] 29 ?_
 refine zo ?_
 refine zB [(2, .sl (.int .i64) prices), (3, .bp 3 0), (4, .bp 4 0)] [(3, .box 103 [.sl (.sl (.pair (.int .i64) .bool)) o.1, .sl (.pair (.int .i64) (.pair (.int .i64) (.int .i64))) o.2.1, .sl (.sl (.int .i64)) o.2.2]), (4, .box 35 [.int .i64 pair.1, .int .i64 pair.2.1, .int .i64 pair.2.2])] ?_
 refine zo ?_
 refine zB [(2, .sl (.int .i64) prices), (3, .bp 3 0), (4, .bp 4 0), (7, .int .i64 9)] [(3, .box 103 [.sl (.sl (.pair (.int .i64) .bool)) o.1, .sl (.pair (.int .i64) (.pair (.int .i64) (.int .i64))) o.2.1, .sl (.sl (.int .i64)) o.2.2]), (4, .box 35 [.int .i64 pair.1, .int .i64 pair.2.1, .int .i64 pair.2.2])] ?_
 refine AW.have1 (fun b1 : Int => delay_offer_most_k1 b1 = some r) (fun b1 => ⟨fr [(7, .int .i64 b1)], hpGet [], gt⟩) (fun b1 h => ?_) (fun hk_delay_offer_most_k1 => ?_)
 ·as_aux_lemma =>
   unfold delay_offer_most_k1 at h
   refine zo ?_
   refine zB [(6, .int .i64 b1)] [] ?_
   refine AW.ret ?_
   obtain rfl := Option.some.inj h
   exact zR [] [] []
 ·refine AW.seq ?_
  refine zo ?_
  refine zS 2 [(2, .sl (.int .i64) prices), (3, .bp 3 0), (4, .bp 4 0), (7, .int .i64 9), (11, .sl (.sl (.pair (.int .i64) .bool)) o.1)] [(3, .box 103 [.sl (.sl (.pair (.int .i64) .bool)) o.1, .sl (.pair (.int .i64) (.pair (.int .i64) (.int .i64))) o.2.1, .sl (.sl (.int .i64)) o.2.2]), (4, .box 35 [.int .i64 pair.1, .int .i64 pair.2.1, .int .i64 pair.2.2])] ?_
  obtain ⟨v0, hv1, h⟩ := Option.bind_eq_some_iff.1 h
  refine zC [] [] (hc_delay_accesses_fences o.1 hv1) [(2, .sl (.int .i64) prices), (3, .bp 3 0), (4, .bp 4 0), (7, .int .i64 9), (12, .own 22000)] [(3, .box 103 [.sl (.sl (.pair (.int .i64) .bool)) o.1, .sl (.pair (.int .i64) (.pair (.int .i64) (.int .i64))) o.2.1, .sl (.sl (.int .i64)) o.2.2]), (4, .box 35 [.int .i64 pair.1, .int .i64 pair.2.1, .int .i64 pair.2.2]), (22000, .arr 110 (.pair (.int .i64) (.int .i64)) v0)] ?_
  refine zB [(2, .sl (.int .i64) prices), (3, .bp 3 0), (4, .bp 4 0), (7, .int .i64 9), (12, .own 22000), (13, .int .i64 (v0.length : Int)), (14, .int .i64 0)] [(3, .box 103 [.sl (.sl (.pair (.int .i64) .bool)) o.1, .sl (.pair (.int .i64) (.pair (.int .i64) (.int .i64))) o.2.1, .sl (.sl (.int .i64)) o.2.2]), (4, .box 35 [.int .i64 pair.1, .int .i64 pair.2.1, .int .i64 pair.2.2]), (22000, .arr 110 (.pair (.int .i64) (.int .i64)) v0)] ?_
  refine AW.block ?_
  obtain ⟨rv6, hw2, ho3⟩ := Option.bind_eq_some_iff.1 h
  refine AW.loopO (delay_offer_most_b1 o pair prices v0) (fun st1 => ⟨fr [(2, .sl (.int .i64) prices), (3, .bp 3 0), (4, .bp 4 0), (7, .int .i64 st1.1), (12, .own 22000), (13, .int .i64 (v0.length : Int)), (14, .int .i64 st1.2)], hpGet [(3, .box 103 [.sl (.sl (.pair (.int .i64) .bool)) o.1, .sl (.pair (.int .i64) (.pair (.int .i64) (.int .i64))) o.2.1, .sl (.sl (.int .i64)) o.2.2]), (4, .box 35 [.int .i64 pair.1, .int .i64 pair.2.1, .int .i64 pair.2.2]), (22000, .arr 110 (.pair (.int .i64) (.int .i64)) v0)], gt⟩) (9, 0) hw2 (zL [] [] []) ?_
  as_aux_lemma =>
   intro st1 x5 h hd4
   unfold delay_offer_most_b1 at h
   refine zo ?_
   refine zB [(2, .sl (.int .i64) prices), (3, .bp 3 0), (4, .bp 4 0), (7, .int .i64 st1.1), (12, .own 22000), (13, .int .i64 (v0.length : Int)), (14, .int .i64 st1.2), (15, .bool (decide (st1.2 < (v0.length : Int))))] [(3, .box 103 [.sl (.sl (.pair (.int .i64) .bool)) o.1, .sl (.pair (.int .i64) (.pair (.int .i64) (.int .i64))) o.2.1, .sl (.sl (.int .i64)) o.2.2]), (4, .box 35 [.int .i64 pair.1, .int .i64 pair.2.1, .int .i64 pair.2.2]), (22000, .arr 110 (.pair (.int .i64) (.int .i64)) v0)] ?_
   refine AW.seq ?_
   refine zQ h (fun hb7 h => ?_) (fun hb7 h => ?_)
   ·refine zk ?_
    refine AW.seq ?_
    refine AW.block ?_
    refine zo ?_
    obtain ⟨c8, h⟩ := ck_some.1 h
    obtain ⟨c9, h⟩ := ck_some.1 h
    refine zB [(2, .sl (.int .i64) prices), (3, .bp 3 0), (4, .bp 4 0), (7, .int .i64 st1.1), (9, .bp 9 0), (12, .own 22000), (13, .int .i64 (v0.length : Int)), (14, .int .i64 st1.2)] [(3, .box 103 [.sl (.sl (.pair (.int .i64) .bool)) o.1, .sl (.pair (.int .i64) (.pair (.int .i64) (.int .i64))) o.2.1, .sl (.sl (.int .i64)) o.2.2]), (4, .box 35 [.int .i64 pair.1, .int .i64 pair.2.1, .int .i64 pair.2.2]), (9, .box 110 [.int .i64 (v0.getD st1.2.toNat (0, 0)).1, .int .i64 (v0.getD st1.2.toNat (0, 0)).2]), (22000, .arr 110 (.pair (.int .i64) (.int .i64)) v0)] ?_
    refine zo ?_
    refine zS 2 [(2, .sl (.int .i64) prices), (3, .bp 3 0), (4, .bp 4 0), (7, .int .i64 st1.1), (9, .bp 9 0), (12, .own 22000), (13, .int .i64 (v0.length : Int)), (14, .int .i64 st1.2), (18, .agg [.int .i64 (v0.getD st1.2.toNat (0, 0)).1, .int .i64 (v0.getD st1.2.toNat (0, 0)).2]), (19, .agg [.int .i64 pair.1, .int .i64 pair.2.1, .int .i64 pair.2.2])] [(3, .box 103 [.sl (.sl (.pair (.int .i64) .bool)) o.1, .sl (.pair (.int .i64) (.pair (.int .i64) (.int .i64))) o.2.1, .sl (.sl (.int .i64)) o.2.2]), (4, .box 35 [.int .i64 pair.1, .int .i64 pair.2.1, .int .i64 pair.2.2]), (9, .box 110 [.int .i64 (v0.getD st1.2.toNat (0, 0)).1, .int .i64 (v0.getD st1.2.toNat (0, 0)).2]), (22000, .arr 110 (.pair (.int .i64) (.int .i64)) v0)] ?_
    obtain ⟨v0_2, hv10, h⟩ := Option.bind_eq_some_iff.1 h
    refine zC [] [] (hc_delay_holds (v0.getD st1.2.toNat (0, 0)) pair hv10) [(2, .sl (.int .i64) prices), (3, .bp 3 0), (4, .bp 4 0), (7, .int .i64 st1.1), (9, .bp 9 0), (12, .own 22000), (13, .int .i64 (v0.length : Int)), (14, .int .i64 st1.2), (20, .bool v0_2)] [(3, .box 103 [.sl (.sl (.pair (.int .i64) .bool)) o.1, .sl (.pair (.int .i64) (.pair (.int .i64) (.int .i64))) o.2.1, .sl (.sl (.int .i64)) o.2.2]), (4, .box 35 [.int .i64 pair.1, .int .i64 pair.2.1, .int .i64 pair.2.2]), (9, .box 110 [.int .i64 (v0.getD st1.2.toNat (0, 0)).1, .int .i64 (v0.getD st1.2.toNat (0, 0)).2]), (22000, .arr 110 (.pair (.int .i64) (.int .i64)) v0)] ?_
    refine zB [(2, .sl (.int .i64) prices), (3, .bp 3 0), (4, .bp 4 0), (7, .int .i64 st1.1), (9, .bp 9 0), (12, .own 22000), (13, .int .i64 (v0.length : Int)), (14, .int .i64 st1.2), (20, .bool v0_2)] [(3, .box 103 [.sl (.sl (.pair (.int .i64) .bool)) o.1, .sl (.pair (.int .i64) (.pair (.int .i64) (.int .i64))) o.2.1, .sl (.sl (.int .i64)) o.2.2]), (4, .box 35 [.int .i64 pair.1, .int .i64 pair.2.1, .int .i64 pair.2.2]), (9, .box 110 [.int .i64 (v0.getD st1.2.toNat (0, 0)).1, .int .i64 (v0.getD st1.2.toNat (0, 0)).2]), (22000, .arr 110 (.pair (.int .i64) (.int .i64)) v0)] ?_
    refine zQ h (fun hb11 h => ?_) (fun hb11 h => ?_)
    ·refine AW.ops ?_
     refine zS 4 [(2, .sl (.int .i64) prices), (3, .bp 3 0), (4, .bp 4 0), (12, .own 22000), (13, .int .i64 (v0.length : Int)), (14, .int .i64 st1.2), (21, .int .i64 st1.1), (22, .agg [.sl (.sl (.pair (.int .i64) .bool)) o.1, .sl (.pair (.int .i64) (.pair (.int .i64) (.int .i64))) o.2.1, .sl (.sl (.int .i64)) o.2.2]), (23, .agg [.int .i64 (v0.getD st1.2.toNat (0, 0)).1, .int .i64 (v0.getD st1.2.toNat (0, 0)).2]), (24, .sl (.int .i64) prices)] [(3, .box 103 [.sl (.sl (.pair (.int .i64) .bool)) o.1, .sl (.pair (.int .i64) (.pair (.int .i64) (.int .i64))) o.2.1, .sl (.sl (.int .i64)) o.2.2]), (4, .box 35 [.int .i64 pair.1, .int .i64 pair.2.1, .int .i64 pair.2.2]), (22000, .arr 110 (.pair (.int .i64) (.int .i64)) v0)] ?_
     obtain ⟨v0_3, hv12, h⟩ := Option.bind_eq_some_iff.1 h
     refine zC [] [] (hc_delay_offer_left o (v0.getD st1.2.toNat (0, 0)) prices hv12) [(2, .sl (.int .i64) prices), (3, .bp 3 0), (4, .bp 4 0), (12, .own 22000), (13, .int .i64 (v0.length : Int)), (14, .int .i64 st1.2), (21, .int .i64 st1.1), (25, .int .i64 v0_3)] [(3, .box 103 [.sl (.sl (.pair (.int .i64) .bool)) o.1, .sl (.pair (.int .i64) (.pair (.int .i64) (.int .i64))) o.2.1, .sl (.sl (.int .i64)) o.2.2]), (4, .box 35 [.int .i64 pair.1, .int .i64 pair.2.1, .int .i64 pair.2.2]), (22000, .arr 110 (.pair (.int .i64) (.int .i64)) v0)] ?_
     refine zA [(2, .sl (.int .i64) prices), (3, .bp 3 0), (4, .bp 4 0), (7, .int .i64 (min st1.1 v0_3)), (12, .own 22000), (13, .int .i64 (v0.length : Int)), (14, .int .i64 st1.2)] [(3, .box 103 [.sl (.sl (.pair (.int .i64) .bool)) o.1, .sl (.pair (.int .i64) (.pair (.int .i64) (.int .i64))) o.2.1, .sl (.sl (.int .i64)) o.2.2]), (4, .box 35 [.int .i64 pair.1, .int .i64 pair.2.1, .int .i64 pair.2.2]), (22000, .arr 110 (.pair (.int .i64) (.int .i64)) v0)] ?_
     refine ablock_n ?_
     refine athen_n ?_
     refine AW.ops ?_
     obtain ⟨c13, h⟩ := ck_some.1 h
     refine zA [(2, .sl (.int .i64) prices), (3, .bp 3 0), (4, .bp 4 0), (7, .int .i64 (min st1.1 v0_3)), (12, .own 22000), (13, .int .i64 (v0.length : Int)), (14, .int .i64 (st1.2 + 1))] [(3, .box 103 [.sl (.sl (.pair (.int .i64) .bool)) o.1, .sl (.pair (.int .i64) (.pair (.int .i64) (.int .i64))) o.2.1, .sl (.sl (.int .i64)) o.2.2]), (4, .box 35 [.int .i64 pair.1, .int .i64 pair.2.1, .int .i64 pair.2.2]), (22000, .arr 110 (.pair (.int .i64) (.int .i64)) v0)] ?_
     obtain rfl := Option.some.inj h
     exact ⟨_, rfl, zL [] [] []⟩
    ·refine zm ?_
     refine athen_n ?_
     refine AW.ops ?_
     obtain ⟨c14, h⟩ := ck_some.1 h
     refine zA [(2, .sl (.int .i64) prices), (3, .bp 3 0), (4, .bp 4 0), (7, .int .i64 st1.1), (12, .own 22000), (13, .int .i64 (v0.length : Int)), (14, .int .i64 (st1.2 + 1))] [(3, .box 103 [.sl (.sl (.pair (.int .i64) .bool)) o.1, .sl (.pair (.int .i64) (.pair (.int .i64) (.int .i64))) o.2.1, .sl (.sl (.int .i64)) o.2.2]), (4, .box 35 [.int .i64 pair.1, .int .i64 pair.2.1, .int .i64 pair.2.2]), (22000, .arr 110 (.pair (.int .i64) (.int .i64)) v0)] ?_
     obtain rfl := Option.some.inj h
     exact ⟨_, rfl, zL [] [] []⟩
   ·refine AW.exit ?_
    refine athen_e ?_
    obtain rfl := Option.some.inj h
    rw [← hd4 _ rfl] at ho3
    have h := ho3
    refine athen_e ?_
    refine ablock_s ?_
    refine athen_n ?_
    exact AW.weaken (zL [] [] []) (hk_delay_offer_most_k1 _ h)

theorem hc_delay_offer_prices (o : (List (List (Int × Bool))) × (List (Int × Int × Int)) × (List (List Int))) {r : (List Int)} (h : delay_offer_prices o = some r) : HC Try.prog 99 [] [.agg [.sl (.sl (.pair (.int .i64) .bool)) o.1, .sl (.pair (.int .i64) (.pair (.int .i64) (.int .i64))) o.2.1, .sl (.sl (.int .i64)) o.2.2]] [(2000, .arr 3 (.int .i64) r)] (.own 2000) := by
 unfold delay_offer_prices at h
 refine zH Try.func99 [.tmp 2] 36 ?_
 refine zo ?_
 refine zB [(1, .bp 1 0)] [(1, .box 103 [.sl (.sl (.pair (.int .i64) .bool)) o.1, .sl (.pair (.int .i64) (.pair (.int .i64) (.int .i64))) o.2.1, .sl (.sl (.int .i64)) o.2.2])] ?_
 refine zo ?_
 obtain ⟨c1, h⟩ := ck_some.1 h
 refine zB [(1, .bp 1 0), (3, .own 10)] [(1, .box 103 [.sl (.sl (.pair (.int .i64) .bool)) o.1, .sl (.pair (.int .i64) (.pair (.int .i64) (.int .i64))) o.2.1, .sl (.sl (.int .i64)) o.2.2]), (10, .arr 3 (.int .i64) (List.replicate o.2.1.length (0 : Int)))] ?_
 refine AW.have1 (fun b2_2 : (List Int) => delay_offer_prices_k1 b2_2 = some r) (fun b2_2 => ⟨fr [(3, .own 10)], hpGet [(10, .arr 3 (.int .i64) b2_2)], gt⟩) (fun b2_2 h => ?_) (fun hk_delay_offer_prices_k1 => ?_)
 ·as_aux_lemma =>
   unfold delay_offer_prices_k1 at h
   refine zo ?_
   refine zB [(2, .own 10)] [(10, .arr 3 (.int .i64) b2_2)] ?_
   refine AW.ret ?_
   obtain rfl := Option.some.inj h
   exact zR [] [] [(2000, 10)]
 ·refine AW.seq ?_
  refine zo ?_
  refine zB [(1, .bp 1 0), (3, .own 10), (11, .int .i64 0)] [(1, .box 103 [.sl (.sl (.pair (.int .i64) .bool)) o.1, .sl (.pair (.int .i64) (.pair (.int .i64) (.int .i64))) o.2.1, .sl (.sl (.int .i64)) o.2.2]), (10, .arr 3 (.int .i64) (List.replicate o.2.1.length (0 : Int)))] ?_
  refine AW.block ?_
  obtain ⟨rv6, hw2, ho3⟩ := Option.bind_eq_some_iff.1 h
  refine AW.loopO (delay_offer_prices_b1 o) (fun st1 => ⟨fr [(1, .bp 1 0), (3, .own 10), (11, .int .i64 st1.2)], hpGet [(1, .box 103 [.sl (.sl (.pair (.int .i64) .bool)) o.1, .sl (.pair (.int .i64) (.pair (.int .i64) (.int .i64))) o.2.1, .sl (.sl (.int .i64)) o.2.2]), (10, .arr 3 (.int .i64) st1.1)], gt⟩) ((List.replicate o.2.1.length (0 : Int)), 0) hw2 (zL [] [] []) ?_
  as_aux_lemma =>
   intro st1 x5 h hd4
   unfold delay_offer_prices_b1 at h
   refine zo ?_
   refine zB [(1, .bp 1 0), (3, .own 10), (11, .int .i64 st1.2), (12, .bool (decide (st1.2 < 4)))] [(1, .box 103 [.sl (.sl (.pair (.int .i64) .bool)) o.1, .sl (.pair (.int .i64) (.pair (.int .i64) (.int .i64))) o.2.1, .sl (.sl (.int .i64)) o.2.2]), (10, .arr 3 (.int .i64) st1.1)] ?_
   refine AW.seq ?_
   refine zQ h (fun hb7 h => ?_) (fun hb7 h => ?_)
   ·refine zk ?_
    refine AW.have1 (fun b2 : (List Int) => delay_offer_prices_k2 st1 b2 = some x5) (fun b2 => ⟨fr [(1, .bp 1 0), (3, .own 10), (11, .int .i64 st1.2)], hpGet [(1, .box 103 [.sl (.sl (.pair (.int .i64) .bool)) o.1, .sl (.pair (.int .i64) (.pair (.int .i64) (.int .i64))) o.2.1, .sl (.sl (.int .i64)) o.2.2]), (10, .arr 3 (.int .i64) b2)], gt⟩) (fun b2 h => ?_) (fun hk_delay_offer_prices_k2 => ?_)
    ·as_aux_lemma =>
      unfold delay_offer_prices_k2 at h
      refine AW.ops ?_
      obtain ⟨c8, h⟩ := ck_some.1 h
      refine zA [(1, .bp 1 0), (3, .own 10), (11, .int .i64 (st1.2 + 1))] [(1, .box 103 [.sl (.sl (.pair (.int .i64) .bool)) o.1, .sl (.pair (.int .i64) (.pair (.int .i64) (.int .i64))) o.2.1, .sl (.sl (.int .i64)) o.2.2]), (10, .arr 3 (.int .i64) b2)] ?_
      obtain rfl := Option.some.inj h
      exact ⟨_, rfl, zL [] [] []⟩
    ·refine AW.seq ?_
     refine AW.block ?_
     refine zo ?_
     refine zB [(1, .bp 1 0), (3, .own 10), (4, .int .i64 st1.2), (11, .int .i64 st1.2)] [(1, .box 103 [.sl (.sl (.pair (.int .i64) .bool)) o.1, .sl (.pair (.int .i64) (.pair (.int .i64) (.int .i64))) o.2.1, .sl (.sl (.int .i64)) o.2.2]), (10, .arr 3 (.int .i64) st1.1)] ?_
     refine zo ?_
     refine zB [(1, .bp 1 0), (3, .own 10), (4, .int .i64 st1.2), (11, .int .i64 st1.2), (15, .sl (.pair (.int .i64) (.pair (.int .i64) (.int .i64))) o.2.1), (16, .int .i64 (o.2.1.length : Int)), (17, .int .i64 0)] [(1, .box 103 [.sl (.sl (.pair (.int .i64) .bool)) o.1, .sl (.pair (.int .i64) (.pair (.int .i64) (.int .i64))) o.2.1, .sl (.sl (.int .i64)) o.2.2]), (10, .arr 3 (.int .i64) st1.1)] ?_
     refine AW.block ?_
     obtain ⟨rv13, hw9, ho10⟩ := Option.bind_eq_some_iff.1 h
     refine AW.loopO (delay_offer_prices_b2 o st1) (fun st2 => ⟨fr [(1, .bp 1 0), (3, .own 10), (4, .int .i64 st1.2), (11, .int .i64 st1.2), (15, .sl (.pair (.int .i64) (.pair (.int .i64) (.int .i64))) o.2.1), (16, .int .i64 (o.2.1.length : Int)), (17, .int .i64 st2.2)], hpGet [(1, .box 103 [.sl (.sl (.pair (.int .i64) .bool)) o.1, .sl (.pair (.int .i64) (.pair (.int .i64) (.int .i64))) o.2.1, .sl (.sl (.int .i64)) o.2.2]), (10, .arr 3 (.int .i64) st2.1)], gt⟩) (st1.1, 0) hw9 (zL [] [] []) ?_
     as_aux_lemma =>
      intro st2 x12 h hd11
      unfold delay_offer_prices_b2 at h
      refine zo ?_
      refine zB [(1, .bp 1 0), (3, .own 10), (4, .int .i64 st1.2), (11, .int .i64 st1.2), (15, .sl (.pair (.int .i64) (.pair (.int .i64) (.int .i64))) o.2.1), (16, .int .i64 (o.2.1.length : Int)), (17, .int .i64 st2.2), (18, .bool (decide (st2.2 < (o.2.1.length : Int))))] [(1, .box 103 [.sl (.sl (.pair (.int .i64) .bool)) o.1, .sl (.pair (.int .i64) (.pair (.int .i64) (.int .i64))) o.2.1, .sl (.sl (.int .i64)) o.2.2]), (10, .arr 3 (.int .i64) st2.1)] ?_
      refine AW.seq ?_
      refine zQ h (fun hb14 h => ?_) (fun hb14 h => ?_)
      ·refine zk ?_
       refine AW.seq ?_
       refine AW.block ?_
       refine zo ?_
       obtain ⟨c15, h⟩ := ck_some.1 h
       obtain ⟨c16, h⟩ := ck_some.1 h
       refine zS 5 [(1, .bp 1 0), (3, .own 10), (4, .int .i64 st1.2), (5, .int .i64 st2.2), (6, .bp 6 0), (11, .int .i64 st1.2), (15, .sl (.pair (.int .i64) (.pair (.int .i64) (.int .i64))) o.2.1), (16, .int .i64 (o.2.1.length : Int)), (17, .int .i64 st2.2), (21, .agg [.int .i64 (o.2.1.getD st2.2.toNat (0, 0, 0)).1, .int .i64 (o.2.1.getD st2.2.toNat (0, 0, 0)).2.1, .int .i64 (o.2.1.getD st2.2.toNat (0, 0, 0)).2.2])] [(1, .box 103 [.sl (.sl (.pair (.int .i64) .bool)) o.1, .sl (.pair (.int .i64) (.pair (.int .i64) (.int .i64))) o.2.1, .sl (.sl (.int .i64)) o.2.2]), (6, .box 35 [.int .i64 0, .int .i64 0, .int .i64 0]), (10, .arr 3 (.int .i64) st2.1)] ?_
       refine zB [(1, .bp 1 0), (3, .own 10), (4, .int .i64 st1.2), (5, .int .i64 st2.2), (6, .bp 6 0), (11, .int .i64 st1.2), (15, .sl (.pair (.int .i64) (.pair (.int .i64) (.int .i64))) o.2.1), (16, .int .i64 (o.2.1.length : Int)), (17, .int .i64 st2.2)] [(1, .box 103 [.sl (.sl (.pair (.int .i64) .bool)) o.1, .sl (.pair (.int .i64) (.pair (.int .i64) (.int .i64))) o.2.1, .sl (.sl (.int .i64)) o.2.2]), (6, .box 35 [.int .i64 (o.2.1.getD st2.2.toNat (0, 0, 0)).1, .int .i64 (o.2.1.getD st2.2.toNat (0, 0, 0)).2.1, .int .i64 (o.2.1.getD st2.2.toNat (0, 0, 0)).2.2]), (10, .arr 3 (.int .i64) st2.1)] ?_
       refine zo ?_
       refine zB [(1, .bp 1 0), (3, .own 10), (4, .int .i64 st1.2), (5, .int .i64 st2.2), (6, .bp 6 0), (11, .int .i64 st1.2), (15, .sl (.pair (.int .i64) (.pair (.int .i64) (.int .i64))) o.2.1), (16, .int .i64 (o.2.1.length : Int)), (17, .int .i64 st2.2), (25, .bool (decide ((o.2.1.getD st2.2.toNat (0, 0, 0)).2.2 = st1.2)))] [(1, .box 103 [.sl (.sl (.pair (.int .i64) .bool)) o.1, .sl (.pair (.int .i64) (.pair (.int .i64) (.int .i64))) o.2.1, .sl (.sl (.int .i64)) o.2.2]), (6, .box 35 [.int .i64 (o.2.1.getD st2.2.toNat (0, 0, 0)).1, .int .i64 (o.2.1.getD st2.2.toNat (0, 0, 0)).2.1, .int .i64 (o.2.1.getD st2.2.toNat (0, 0, 0)).2.2]), (10, .arr 3 (.int .i64) st2.1)] ?_
       refine zQ h (fun hb17 h => ?_) (fun hb17 h => ?_)
       ·refine AW.ops ?_
        refine zS 5 [(1, .bp 1 0), (3, .own 10), (4, .int .i64 st1.2), (11, .int .i64 st1.2), (15, .sl (.pair (.int .i64) (.pair (.int .i64) (.int .i64))) o.2.1), (16, .int .i64 (o.2.1.length : Int)), (17, .int .i64 st2.2), (26, .own 10), (27, .int .i64 st2.2), (28, .agg [.sl (.sl (.pair (.int .i64) .bool)) o.1, .sl (.pair (.int .i64) (.pair (.int .i64) (.int .i64))) o.2.1, .sl (.sl (.int .i64)) o.2.2]), (29, .agg [.int .i64 (o.2.1.getD st2.2.toNat (0, 0, 0)).1, .int .i64 (o.2.1.getD st2.2.toNat (0, 0, 0)).2.1, .int .i64 (o.2.1.getD st2.2.toNat (0, 0, 0)).2.2]), (30, .own 10)] [(1, .box 103 [.sl (.sl (.pair (.int .i64) .bool)) o.1, .sl (.pair (.int .i64) (.pair (.int .i64) (.int .i64))) o.2.1, .sl (.sl (.int .i64)) o.2.2]), (10, .arr 3 (.int .i64) st2.1)] ?_
        obtain ⟨v0, hv18, h⟩ := Option.bind_eq_some_iff.1 h
        refine zC [10] [] (hc_delay_offer_most o (o.2.1.getD st2.2.toNat (0, 0, 0)) st2.1 hv18) [(1, .bp 1 0), (3, .own 10), (4, .int .i64 st1.2), (11, .int .i64 st1.2), (15, .sl (.pair (.int .i64) (.pair (.int .i64) (.int .i64))) o.2.1), (16, .int .i64 (o.2.1.length : Int)), (17, .int .i64 st2.2), (26, .own 10), (27, .int .i64 st2.2), (31, .int .i64 v0)] [(1, .box 103 [.sl (.sl (.pair (.int .i64) .bool)) o.1, .sl (.pair (.int .i64) (.pair (.int .i64) (.int .i64))) o.2.1, .sl (.sl (.int .i64)) o.2.2]), (10, .arr 3 (.int .i64) st2.1)] ?_
        obtain ⟨c19, h⟩ := ck_some.1 h
        obtain ⟨c20, h⟩ := ck_some.1 h
        refine zA [(1, .bp 1 0), (3, .own 10), (4, .int .i64 st1.2), (11, .int .i64 st1.2), (15, .sl (.pair (.int .i64) (.pair (.int .i64) (.int .i64))) o.2.1), (16, .int .i64 (o.2.1.length : Int)), (17, .int .i64 st2.2)] [(1, .box 103 [.sl (.sl (.pair (.int .i64) .bool)) o.1, .sl (.pair (.int .i64) (.pair (.int .i64) (.int .i64))) o.2.1, .sl (.sl (.int .i64)) o.2.2]), (10, .arr 3 (.int .i64) (st2.1.set st2.2.toNat v0))] ?_
        refine ablock_n ?_
        refine athen_n ?_
        refine AW.ops ?_
        obtain ⟨c21, h⟩ := ck_some.1 h
        refine zA [(1, .bp 1 0), (3, .own 10), (4, .int .i64 st1.2), (11, .int .i64 st1.2), (15, .sl (.pair (.int .i64) (.pair (.int .i64) (.int .i64))) o.2.1), (16, .int .i64 (o.2.1.length : Int)), (17, .int .i64 (st2.2 + 1))] [(1, .box 103 [.sl (.sl (.pair (.int .i64) .bool)) o.1, .sl (.pair (.int .i64) (.pair (.int .i64) (.int .i64))) o.2.1, .sl (.sl (.int .i64)) o.2.2]), (10, .arr 3 (.int .i64) (st2.1.set st2.2.toNat v0))] ?_
        obtain rfl := Option.some.inj h
        exact ⟨_, rfl, zL [] [] []⟩
       ·refine zm ?_
        refine athen_n ?_
        refine AW.ops ?_
        obtain ⟨c22, h⟩ := ck_some.1 h
        refine zA [(1, .bp 1 0), (3, .own 10), (4, .int .i64 st1.2), (11, .int .i64 st1.2), (15, .sl (.pair (.int .i64) (.pair (.int .i64) (.int .i64))) o.2.1), (16, .int .i64 (o.2.1.length : Int)), (17, .int .i64 (st2.2 + 1))] [(1, .box 103 [.sl (.sl (.pair (.int .i64) .bool)) o.1, .sl (.pair (.int .i64) (.pair (.int .i64) (.int .i64))) o.2.1, .sl (.sl (.int .i64)) o.2.2]), (10, .arr 3 (.int .i64) st2.1)] ?_
        obtain rfl := Option.some.inj h
        exact ⟨_, rfl, zL [] [] []⟩
      ·refine AW.exit ?_
       refine athen_e ?_
       obtain rfl := Option.some.inj h
       rw [← hd11 _ rfl] at ho10
       have h := ho10
       refine athen_e ?_
       refine ablock_s ?_
       refine ablock_n ?_
       refine athen_n ?_
       exact AW.weaken (zL [] [] []) (hk_delay_offer_prices_k2 _ h)
   ·refine AW.exit ?_
    refine athen_e ?_
    obtain rfl := Option.some.inj h
    rw [← hd4 _ rfl] at ho3
    have h := ho3
    refine athen_e ?_
    refine ablock_s ?_
    refine athen_n ?_
    exact AW.weaken (zL [] [] []) (hk_delay_offer_prices_k1 _ h)

theorem hc_delay_Prices (x0 : List (List (Int × Bool))) (costs : List (List Int)) {r : (List Int) × Int} (h : delay_Prices x0 costs = some r) : HC Try.prog 47 [] [.sl (.sl (.pair (.int .i64) .bool)) x0, .sl (.sl (.int .i64)) costs] [(2000, .arr 3 (.int .i64) r.1)] (.tup [.own 2000, .int .i64 r.2]) := by
 unfold delay_Prices at h
 refine zH Try.func47 [.tmp 4, .tmp 5] 19 ?_
 refine zo ?_
 refine zB [(0, .sl (.sl (.pair (.int .i64) .bool)) x0), (1, .sl (.sl (.int .i64)) costs)] [] ?_
 refine zo ?_
 refine zS 2 [(9, .sl (.sl (.pair (.int .i64) .bool)) x0), (10, .sl (.sl (.int .i64)) costs)] [] ?_
 obtain ⟨v0, hv1, h⟩ := Option.bind_eq_some_iff.1 h
 refine zC [] [] (hc_delay_offerOf x0 costs hv1) [(11, .tup [.agg [.sl (.sl (.pair (.int .i64) .bool)) v0.1, .own 21000, .sl (.sl (.int .i64)) v0.2.2.1], .int .i64 v0.2.2.2])] [(21000, .arr 35 (.pair (.int .i64) (.pair (.int .i64) (.int .i64))) v0.2.1)] ?_
 refine AO.weaken (s' := ⟨fr [(11, .tup [.agg [.sl (.sl (.pair (.int .i64) .bool)) v0.1, .sl (.pair (.int .i64) (.pair (.int .i64) (.int .i64))) v0.2.1, .sl (.sl (.int .i64)) v0.2.2.1], .int .i64 v0.2.2.2])], hpGet [], gt⟩) (zL [21000] [] []) ?_
 refine zS 5 [(6, .bp 6 0), (13, .int .i64 v0.2.2.2)] [(6, .box 103 [.sl (.sl (.pair (.int .i64) .bool)) v0.1, .sl (.pair (.int .i64) (.pair (.int .i64) (.int .i64))) v0.2.1, .sl (.sl (.int .i64)) v0.2.2.1])] ?_
 refine zB [(6, .bp 6 0), (7, .int .i64 v0.2.2.2)] [(6, .box 103 [.sl (.sl (.pair (.int .i64) .bool)) v0.1, .sl (.pair (.int .i64) (.pair (.int .i64) (.int .i64))) v0.2.1, .sl (.sl (.int .i64)) v0.2.2.1])] ?_
 refine AW.seq ?_
 refine zo ?_
 refine zB [(6, .bp 6 0), (7, .int .i64 v0.2.2.2), (15, .bool (!(decide (v0.2.2.2 = 0))))] [(6, .box 103 [.sl (.sl (.pair (.int .i64) .bool)) v0.1, .sl (.pair (.int .i64) (.pair (.int .i64) (.int .i64))) v0.2.1, .sl (.sl (.int .i64)) v0.2.2.1])] ?_
 refine zQ h (fun hb2 h => ?_) (fun hb2 h => ?_)
 ·refine zo ?_
  refine zB [(4, .cv (.slice none 0 0)), (5, .int .i64 v0.2.2.2)] [] ?_
  refine zr ?_
  obtain rfl := Option.some.inj h
  exact zR [] [2000] []
 ·refine zk ?_
  refine zo ?_
  refine zS 1 [(17, .agg [.sl (.sl (.pair (.int .i64) .bool)) v0.1, .sl (.pair (.int .i64) (.pair (.int .i64) (.int .i64))) v0.2.1, .sl (.sl (.int .i64)) v0.2.2.1])] [] ?_
  obtain ⟨v0_2, hv3, h⟩ := Option.bind_eq_some_iff.1 h
  refine zC [] [] (hc_delay_offer_prices (v0.1, v0.2.1, v0.2.2.1) hv3) [(18, .own 28000)] [(28000, .arr 3 (.int .i64) v0_2)] ?_
  refine zB [(4, .own 28000), (5, .int .i64 0)] [(28000, .arr 3 (.int .i64) v0_2)] ?_
  refine AW.ret ?_
  obtain rfl := Option.some.inj h
  exact zR [] [] [(2000, 28000)]

end Go.Proofs.Ytdicomoggfhbfaa
