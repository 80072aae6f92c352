/-
  Made by wip/tool/dc.py out of the print of the program: contracts.
-/
import Derived.Test.YtljonmpcehlpaaaRfp
import Derived.Test.YtljonmpcehlpaaaShr
import Derived.Test.YtljonmpcehlpaaaNtc1
import Derived.Test.YtljonmpcehlpaaaNtc7
namespace Go.Proofs.Ytljonmpcehlpaaa
open Go.RowKit

set_option linter.unusedSimpArgs false
set_option linter.unusedVariables false
set_option linter.constructorNameAsVariable false

set_option maxRecDepth 100000
set_option maxHeartbeats 2000000

theorem hc_refine_isPlain (steps : List (Int × Int × Int)) {r : Bool} (h : refine_isPlain steps = some r) : HC Try.prog 93 [] [.sl (.pair (.int .i64) (.pair (.int .i64) (.int .i64))) steps] [] (.bool r) := by
 unfold refine_isPlain at h
 refine zH Try.func93 [.tmp 2] 25 ?_
 refine zo ?_
 refine zB [(0, .sl (.pair (.int .i64) (.pair (.int .i64) (.int .i64))) steps)] [] ?_
 refine AW.have1 (fun _ : Unit => refine_isPlain_k1 = some r) (fun _ => ⟨fr [], hpGet [], gt⟩) (fun _ h => ?_) (fun hk_refine_isPlain_k1 => ?_)
 ·as_aux_lemma =>
   unfold refine_isPlain_k1 at h
   refine zo ?_
   refine zB [(2, .bool true)] [] ?_
   refine AW.ret ?_
   obtain rfl := Option.some.inj h
   exact zR [] [] []
 ·refine AW.seq ?_
  refine zo ?_
  refine zB [(0, .sl (.pair (.int .i64) (.pair (.int .i64) (.int .i64))) steps), (6, .sl (.pair (.int .i64) (.pair (.int .i64) (.int .i64))) steps), (7, .int .i64 (steps.length : Int)), (8, .int .i64 0)] [] ?_
  refine AW.block ?_
  obtain ⟨rv5, hw1, ho2⟩ := Option.bind_eq_some_iff.1 h
  refine AW.loopO (refine_isPlain_b1 steps) (fun st1 => ⟨fr [(0, .sl (.pair (.int .i64) (.pair (.int .i64) (.int .i64))) steps), (6, .sl (.pair (.int .i64) (.pair (.int .i64) (.int .i64))) steps), (7, .int .i64 (steps.length : Int)), (8, .int .i64 st1)], hpGet [], gt⟩) 0 hw1 (zL [] [] []) ?_
  as_aux_lemma =>
   intro st1 x4 h hd3
   unfold refine_isPlain_b1 at h
   refine zo ?_
   refine zB [(0, .sl (.pair (.int .i64) (.pair (.int .i64) (.int .i64))) steps), (6, .sl (.pair (.int .i64) (.pair (.int .i64) (.int .i64))) steps), (7, .int .i64 (steps.length : Int)), (8, .int .i64 st1), (9, .bool (decide (st1 < (steps.length : Int))))] [] ?_
   refine AW.seq ?_
   refine zQ h (fun hb6 h => ?_) (fun hb6 h => ?_)
   ·refine zk ?_
    refine AW.seq ?_
    refine AW.block ?_
    refine zo ?_
    obtain ⟨c7, h⟩ := ck_some.1 h
    obtain ⟨c8, h⟩ := ck_some.1 h
    refine zS 5 [(0, .sl (.pair (.int .i64) (.pair (.int .i64) (.int .i64))) steps), (3, .int .i64 st1), (4, .bp 4 0), (6, .sl (.pair (.int .i64) (.pair (.int .i64) (.int .i64))) steps), (7, .int .i64 (steps.length : Int)), (8, .int .i64 st1), (12, .agg [.int .i64 (steps.getD st1.toNat (0, 0, 0)).1, .int .i64 (steps.getD st1.toNat (0, 0, 0)).2.1, .int .i64 (steps.getD st1.toNat (0, 0, 0)).2.2])] [(4, .box 66 [.int .i64 0, .int .i64 0, .int .i64 0])] ?_
    refine zB [(0, .sl (.pair (.int .i64) (.pair (.int .i64) (.int .i64))) steps), (3, .int .i64 st1), (4, .bp 4 0), (6, .sl (.pair (.int .i64) (.pair (.int .i64) (.int .i64))) steps), (7, .int .i64 (steps.length : Int)), (8, .int .i64 st1)] [(4, .box 66 [.int .i64 (steps.getD st1.toNat (0, 0, 0)).1, .int .i64 (steps.getD st1.toNat (0, 0, 0)).2.1, .int .i64 (steps.getD st1.toNat (0, 0, 0)).2.2])] ?_
    refine zo ?_
    obtain ⟨c9, h⟩ := ck_some.1 h
    obtain ⟨c10, h⟩ := ck_some.1 h
    refine zS 4 [(0, .sl (.pair (.int .i64) (.pair (.int .i64) (.int .i64))) steps), (4, .bp 4 0), (6, .sl (.pair (.int .i64) (.pair (.int .i64) (.int .i64))) steps), (7, .int .i64 (steps.length : Int)), (8, .int .i64 st1), (15, .sl (.pair (.int .i64) (.pair (.int .i64) (.int .i64))) (steps.take st1.toNat)), (16, .fn (.func 117) [] [.bp 4 0])] [(4, .box 66 [.int .i64 (steps.getD st1.toNat (0, 0, 0)).1, .int .i64 (steps.getD st1.toNat (0, 0, 0)).2.1, .int .i64 (steps.getD st1.toNat (0, 0, 0)).2.2])] ?_
    obtain ⟨v0, hv11, h⟩ := Option.bind_eq_some_iff.1 h
    refine zC [] [(1000, 4)] (hc_slices_ContainsFunc_2 (steps.take st1.toNat) (steps.getD st1.toNat (0, 0, 0)) hv11) [(0, .sl (.pair (.int .i64) (.pair (.int .i64) (.int .i64))) steps), (4, .bp 4 0), (6, .sl (.pair (.int .i64) (.pair (.int .i64) (.int .i64))) steps), (7, .int .i64 (steps.length : Int)), (8, .int .i64 st1), (17, .bool v0)] [(4, .box 66 [.int .i64 (steps.getD st1.toNat (0, 0, 0)).1, .int .i64 (steps.getD st1.toNat (0, 0, 0)).2.1, .int .i64 (steps.getD st1.toNat (0, 0, 0)).2.2])] ?_
    refine zB [(0, .sl (.pair (.int .i64) (.pair (.int .i64) (.int .i64))) steps), (4, .bp 4 0), (5, .bool v0), (6, .sl (.pair (.int .i64) (.pair (.int .i64) (.int .i64))) steps), (7, .int .i64 (steps.length : Int)), (8, .int .i64 st1)] [(4, .box 66 [.int .i64 (steps.getD st1.toNat (0, 0, 0)).1, .int .i64 (steps.getD st1.toNat (0, 0, 0)).2.1, .int .i64 (steps.getD st1.toNat (0, 0, 0)).2.2])] ?_
    refine zo ?_
    refine zS 2 [(0, .sl (.pair (.int .i64) (.pair (.int .i64) (.int .i64))) steps), (4, .bp 4 0), (6, .sl (.pair (.int .i64) (.pair (.int .i64) (.int .i64))) steps), (7, .int .i64 (steps.length : Int)), (8, .int .i64 st1), (19, .bool v0)] [(4, .box 66 [.int .i64 (steps.getD st1.toNat (0, 0, 0)).1, .int .i64 (steps.getD st1.toNat (0, 0, 0)).2.1, .int .i64 (steps.getD st1.toNat (0, 0, 0)).2.2])] ?_
    rcases zI h with ⟨hb12, h⟩ | ⟨hb12, h⟩
    ·refine zB [(0, .sl (.pair (.int .i64) (.pair (.int .i64) (.int .i64))) steps), (6, .sl (.pair (.int .i64) (.pair (.int .i64) (.int .i64))) steps), (7, .int .i64 (steps.length : Int)), (8, .int .i64 st1), (23, .bool true)] [] ?_
     refine AW.cond (b := true) rfl (fun _ => ?_) (fun hb13 => by cases hb13)
     refine zo ?_
     refine zB [(2, .bool false)] [] ?_
     refine AW.ret ?_
     refine ablock_r ?_
     refine athen_r ?_
     obtain rfl := Option.some.inj h
     rw [← hd3 _ rfl] at ho2
     have h := ho2
     try simp only at h
     refine athen_r ?_
     refine ablock_r ?_
     refine athen_r ?_
     obtain rfl := Option.some.inj h
     exact zR [] [] []
    ·refine zS 2 [(0, .sl (.pair (.int .i64) (.pair (.int .i64) (.int .i64))) steps), (6, .sl (.pair (.int .i64) (.pair (.int .i64) (.int .i64))) steps), (7, .int .i64 (steps.length : Int)), (8, .int .i64 st1), (19, .bool false), (21, .int .i64 (steps.getD st1.toNat (0, 0, 0)).2.1)] [] ?_
     obtain ⟨v0_2, hv14, h⟩ := Option.bind_eq_some_iff.1 h
     refine zG [] [] (hc_refine_isHidden (steps.getD st1.toNat (0, 0, 0)).2.1 hv14) [(0, .sl (.pair (.int .i64) (.pair (.int .i64) (.int .i64))) steps), (6, .sl (.pair (.int .i64) (.pair (.int .i64) (.int .i64))) steps), (7, .int .i64 (steps.length : Int)), (8, .int .i64 st1), (19, .bool false), (22, .bool (decide ((steps.getD st1.toNat (0, 0, 0)).2.1 = 0)))] [] ?_
     refine zB [(0, .sl (.pair (.int .i64) (.pair (.int .i64) (.int .i64))) steps), (6, .sl (.pair (.int .i64) (.pair (.int .i64) (.int .i64))) steps), (7, .int .i64 (steps.length : Int)), (8, .int .i64 st1), (23, .bool (decide ((steps.getD st1.toNat (0, 0, 0)).2.1 = 0)))] [] ?_
     refine zQ h (fun hb15 h => ?_) (fun hb15 h => ?_)
     ·refine zo ?_
      refine zB [(2, .bool false)] [] ?_
      refine AW.ret ?_
      refine ablock_r ?_
      refine athen_r ?_
      obtain rfl := Option.some.inj h
      rw [← hd3 _ rfl] at ho2
      have h := ho2
      try simp only at h
      refine athen_r ?_
      refine ablock_r ?_
      refine athen_r ?_
      obtain rfl := Option.some.inj h
      exact zR [] [] []
     ·refine zm ?_
      refine athen_n ?_
      refine AW.ops ?_
      obtain ⟨c16, h⟩ := ck_some.1 h
      refine zA [(0, .sl (.pair (.int .i64) (.pair (.int .i64) (.int .i64))) steps), (6, .sl (.pair (.int .i64) (.pair (.int .i64) (.int .i64))) steps), (7, .int .i64 (steps.length : Int)), (8, .int .i64 (st1 + 1))] [] ?_
      obtain rfl := Option.some.inj h
      exact ⟨_, rfl, zL [] [] []⟩
   ·refine AW.exit ?_
    refine athen_e ?_
    obtain rfl := Option.some.inj h
    rw [← hd3 _ rfl] at ho2
    have h := ho2
    try simp only at h
    refine athen_e ?_
    refine ablock_s ?_
    refine athen_n ?_
    exact AW.weaken (zL [] [] []) (hk_refine_isPlain_k1 () h)

theorem hc_refine_Plain (s : Int × (List (Int × Int × Int))) {r : Bool × Int} (h : refine_Plain s = some r) : HC Try.prog 43 [] [.agg [.int .i64 s.1, .sl (.pair (.int .i64) (.pair (.int .i64) (.int .i64))) s.2]] [] (.tup [.bool r.1, .int .i64 r.2]) := by
 unfold refine_Plain at h
 refine zH Try.func43 [.tmp 2, .tmp 3] 10 ?_
 refine zo ?_
 refine zB [(1, .bp 1 0)] [(1, .box 24 [.int .i64 s.1, .sl (.pair (.int .i64) (.pair (.int .i64) (.int .i64))) s.2])] ?_
 refine AW.seq ?_
 refine zo ?_
 refine zS 1 [(1, .bp 1 0), (4, .agg [.int .i64 s.1, .sl (.pair (.int .i64) (.pair (.int .i64) (.int .i64))) s.2])] [(1, .box 24 [.int .i64 s.1, .sl (.pair (.int .i64) (.pair (.int .i64) (.int .i64))) s.2])] ?_
 obtain ⟨v0, hv1, h⟩ := Option.bind_eq_some_iff.1 h
 refine zC [] [] (hc_refine_Valid s hv1) [(1, .bp 1 0), (5, .bool v0)] [(1, .box 24 [.int .i64 s.1, .sl (.pair (.int .i64) (.pair (.int .i64) (.int .i64))) s.2])] ?_
 refine zB [(1, .bp 1 0), (6, .bool (!v0))] [(1, .box 24 [.int .i64 s.1, .sl (.pair (.int .i64) (.pair (.int .i64) (.int .i64))) s.2])] ?_
 refine zQ h (fun hb2 h => ?_) (fun hb2 h => ?_)
 ·refine zo ?_
  refine zB [(2, .bool false), (3, .int .i64 50)] [] ?_
  refine zr ?_
  obtain rfl := Option.some.inj h
  exact zR [] [] []
 ·refine zk ?_
  refine zo ?_
  refine zS 2 [(8, .sl (.pair (.int .i64) (.pair (.int .i64) (.int .i64))) s.2)] [] ?_
  obtain ⟨v0_2, hv3, h⟩ := Option.bind_eq_some_iff.1 h
  refine zC [] [] (hc_refine_isPlain s.2 hv3) [(9, .bool v0_2)] [] ?_
  refine zB [(2, .bool v0_2), (3, .int .i64 0)] [] ?_
  refine AW.ret ?_
  obtain rfl := Option.some.inj h
  exact zR [] [] []

end Go.Proofs.Ytljonmpcehlpaaa
