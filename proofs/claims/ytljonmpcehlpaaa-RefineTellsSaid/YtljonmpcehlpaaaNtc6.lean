/-
  Made by wip/tool/dc.py out of the print of the program: contracts.
-/
import Derived.Test.YtljonmpcehlpaaaRfp
import Derived.Test.YtljonmpcehlpaaaShr
import Derived.Test.YtljonmpcehlpaaaAvd
import Derived.Test.YtljonmpcehlpaaaNtc1
import Derived.Test.YtljonmpcehlpaaaNtc2
import Derived.Test.YtljonmpcehlpaaaNtc3
import Derived.Test.YtljonmpcehlpaaaNtc5
namespace Go.Proofs.Ytljonmpcehlpaaa
open Go.RowKit

set_option linter.unusedSimpArgs false
set_option linter.unusedVariables false
set_option linter.constructorNameAsVariable false

set_option maxRecDepth 100000
set_option maxHeartbeats 2000000

theorem hc_refine_frame_traces_1 (trace : List Int) (at0 : Int) (a3 : Int) (a4 : (Int × (List (Int × Int × Int))) × (El T69)) {r : (List (List Int))} (h : refine_frame_traces_1 trace at0 a3 a4 = some r) : HC Try.prog 111 [(1000, .box 36 [.cv (.slice none 0 0)]), (1001, .box 3 [.int .i64 a3]), (1002, .box 71 (.int .i64 a4.1.1 :: (.sl (.pair (.int .i64) (.pair (.int .i64) (.int .i64))) a4.1.2 :: (cellsX T69 a4.2)))), (1003, .box 125 [.fn (.func 111) [] [.bp 1000 0, .bp 1001 0, .bp 1002 0, .bp 1003 0]])] [.sl (.int .i64) trace, .int .u8 at0, .bp 1000 0, .bp 1001 0, .bp 1002 0, .bp 1003 0] [(1000, .box 36 [.own 2000]), (1001, .box 3 [.int .i64 a3]), (1002, .box 71 (.int .i64 a4.1.1 :: (.sl (.pair (.int .i64) (.pair (.int .i64) (.int .i64))) a4.1.2 :: (cellsX T69 a4.2)))), (1003, .box 125 [.fn (.func 111) [] [.bp 1000 0, .bp 1001 0, .bp 1002 0, .bp 1003 0]]), (2000, .arr 27 (.sl (.int .i64)) r)] (.tup []) := by
 unfold refine_frame_traces_1 at h
 refine zH Try.func111 [] 34 ?_
 refine zo ?_
 refine zB [(0, .sl (.int .i64) trace), (1, .int .u8 at0), (3, .bp 1001 0), (4, .bp 1002 0), (5, .bp 1003 0)] [(13, .arr 27 (.sl (.int .i64)) [trace]), (1000, .box 36 [.own 13]), (1001, .box 3 [.int .i64 a3]), (1002, .box 71 (.int .i64 a4.1.1 :: (.sl (.pair (.int .i64) (.pair (.int .i64) (.int .i64))) a4.1.2 :: (cellsX T69 a4.2)))), (1003, .box 125 [.fn (.func 111) [] [.bp 1000 0, .bp 1001 0, .bp 1002 0, .bp 1003 0]])] ?_
 refine AW.seq ?_
 refine zo ?_
 refine zB [(0, .sl (.int .i64) trace), (1, .int .u8 at0), (4, .bp 1002 0), (5, .bp 1003 0), (17, .bool (decide ((trace.length : Int) = a3)))] [(13, .arr 27 (.sl (.int .i64)) [trace]), (1000, .box 36 [.own 13]), (1001, .box 3 [.int .i64 a3]), (1002, .box 71 (.int .i64 a4.1.1 :: (.sl (.pair (.int .i64) (.pair (.int .i64) (.int .i64))) a4.1.2 :: (cellsX T69 a4.2)))), (1003, .box 125 [.fn (.func 111) [] [.bp 1000 0, .bp 1001 0, .bp 1002 0, .bp 1003 0]])] ?_
 refine zQ h (fun hb1 h => ?_) (fun hb1 h => ?_)
 ·refine zr ?_
  obtain rfl := Option.some.inj h
  exact zR [] [] [(2000, 13)]
 ·refine zk ?_
  refine zo ?_
  refine zB [(0, .sl (.int .i64) trace), (1, .int .u8 at0), (4, .bp 1002 0), (5, .bp 1003 0), (8, .int .i64 1)] [(13, .arr 27 (.sl (.int .i64)) [trace]), (1000, .box 36 [.own 13]), (1001, .box 3 [.int .i64 a3]), (1002, .box 71 (.int .i64 a4.1.1 :: (.sl (.pair (.int .i64) (.pair (.int .i64) (.int .i64))) a4.1.2 :: (cellsX T69 a4.2)))), (1003, .box 125 [.fn (.func 111) [] [.bp 1000 0, .bp 1001 0, .bp 1002 0, .bp 1003 0]])] ?_
  refine AW.block ?_
  obtain ⟨rv6, hw2, ho3⟩ := Option.bind_eq_some_iff.1 h
  refine AW.loopO (refine_frame_traces_1_b1 trace at0 a3 a4) (fun st1 => ⟨fr [(0, .sl (.int .i64) trace), (1, .int .u8 at0), (4, .bp 1002 0), (5, .bp 1003 0), (8, .int .i64 st1.2)], hpGet [(13, .arr 27 (.sl (.int .i64)) st1.1), (1000, .box 36 [.own 13]), (1001, .box 3 [.int .i64 a3]), (1002, .box 71 (.int .i64 a4.1.1 :: (.sl (.pair (.int .i64) (.pair (.int .i64) (.int .i64))) a4.1.2 :: (cellsX T69 a4.2)))), (1003, .box 125 [.fn (.func 111) [] [.bp 1000 0, .bp 1001 0, .bp 1002 0, .bp 1003 0]])], gt⟩) ([trace], 1) hw2 (zL [] [] []) ?_
  as_aux_lemma =>
   intro st1 x5 h hd4
   unfold refine_frame_traces_1_b1 at h
   refine AW.seq ?_
   refine zo ?_
   refine zB [(0, .sl (.int .i64) trace), (1, .int .u8 at0), (4, .bp 1002 0), (5, .bp 1003 0), (8, .int .i64 st1.2), (19, .bool (decide (st1.2 ≤ 3)))] [(13, .arr 27 (.sl (.int .i64)) st1.1), (1000, .box 36 [.own 13]), (1001, .box 3 [.int .i64 a3]), (1002, .box 71 (.int .i64 a4.1.1 :: (.sl (.pair (.int .i64) (.pair (.int .i64) (.int .i64))) a4.1.2 :: (cellsX T69 a4.2)))), (1003, .box 125 [.fn (.func 111) [] [.bp 1000 0, .bp 1001 0, .bp 1002 0, .bp 1003 0]])] ?_
   refine zQ h (fun hb7 h => ?_) (fun hb7 h => ?_)
   ·refine zk ?_
    refine AW.seq ?_
    refine AW.block ?_
    refine zo ?_
    refine zS 3 [(0, .sl (.int .i64) trace), (1, .int .u8 at0), (4, .bp 1002 0), (5, .bp 1003 0), (8, .int .i64 st1.2), (22, .agg (.int .i64 a4.1.1 :: (.sl (.pair (.int .i64) (.pair (.int .i64) (.int .i64))) a4.1.2 :: (cellsX T69 a4.2)))), (23, .int .u8 at0), (24, .int .i64 st1.2)] [(13, .arr 27 (.sl (.int .i64)) st1.1), (1000, .box 36 [.own 13]), (1001, .box 3 [.int .i64 a3]), (1002, .box 71 (.int .i64 a4.1.1 :: (.sl (.pair (.int .i64) (.pair (.int .i64) (.int .i64))) a4.1.2 :: (cellsX T69 a4.2)))), (1003, .box 125 [.fn (.func 111) [] [.bp 1000 0, .bp 1001 0, .bp 1002 0, .bp 1003 0]])] ?_
    obtain ⟨v0, hv8, h⟩ := Option.bind_eq_some_iff.1 h
    refine zC [] [] (hc_refine_frame_after a4 at0 st1.2 hv8) [(0, .sl (.int .i64) trace), (1, .int .u8 at0), (4, .bp 1002 0), (5, .bp 1003 0), (8, .int .i64 st1.2), (25, .int .u8 v0)] [(13, .arr 27 (.sl (.int .i64)) st1.1), (1000, .box 36 [.own 13]), (1001, .box 3 [.int .i64 a3]), (1002, .box 71 (.int .i64 a4.1.1 :: (.sl (.pair (.int .i64) (.pair (.int .i64) (.int .i64))) a4.1.2 :: (cellsX T69 a4.2)))), (1003, .box 125 [.fn (.func 111) [] [.bp 1000 0, .bp 1001 0, .bp 1002 0, .bp 1003 0]])] ?_
    refine zB [(0, .sl (.int .i64) trace), (1, .int .u8 at0), (4, .bp 1002 0), (5, .bp 1003 0), (8, .int .i64 st1.2), (9, .int .u8 v0)] [(13, .arr 27 (.sl (.int .i64)) st1.1), (1000, .box 36 [.own 13]), (1001, .box 3 [.int .i64 a3]), (1002, .box 71 (.int .i64 a4.1.1 :: (.sl (.pair (.int .i64) (.pair (.int .i64) (.int .i64))) a4.1.2 :: (cellsX T69 a4.2)))), (1003, .box 125 [.fn (.func 111) [] [.bp 1000 0, .bp 1001 0, .bp 1002 0, .bp 1003 0]])] ?_
    refine zo ?_
    refine zB [(0, .sl (.int .i64) trace), (1, .int .u8 at0), (4, .bp 1002 0), (5, .bp 1003 0), (8, .int .i64 st1.2), (9, .int .u8 v0), (27, .bool (!(decide (v0 = 0))))] [(13, .arr 27 (.sl (.int .i64)) st1.1), (1000, .box 36 [.own 13]), (1001, .box 3 [.int .i64 a3]), (1002, .box 71 (.int .i64 a4.1.1 :: (.sl (.pair (.int .i64) (.pair (.int .i64) (.int .i64))) a4.1.2 :: (cellsX T69 a4.2)))), (1003, .box 125 [.fn (.func 111) [] [.bp 1000 0, .bp 1001 0, .bp 1002 0, .bp 1003 0]])] ?_
    refine zQ h (fun hb9 h => ?_) (fun hb9 h => ?_)
    ·refine AW.draw tab_ok mixed_ok [(3, [41000]), (5, [13, 1000, 1001, 1002, 1003, 41000, 43000])] [(0, [1000, 1001, 1002, 1003, 1000001000, 1000001001, 1000001002]), (4, [])] (by decide) (by kernel_rfl) ?_
     as_aux_lemma =>
      refine adops_cut 3 (fun K' hK10 => ?_)
      try dsimp only [List.drop_succ_cons, List.drop_zero, List.take_succ_cons, List.take_zero]
      simp only [go_sem, hb1, hb7, hb9]
      repeat with_reducible refine zN ?_
      refine hK10 _ ?_
      as_aux_lemma =>
       obtain ⟨v0_2, hv11, h⟩ := Option.bind_eq_some_iff.1 h
       refine adops.call (by first | trivial | rfl) rfl rfl rfl (fun _ h => h) [] [] (hc_refine_longer trace st1.2 hv11) rfl (by (simp only [go_sem, hb1, hb7, hb9]) <;> (with_reducible and_intros) <;> first | assumption | rfl | omega | (unfold maxLen; omega)) (by (simp only [go_sem, hb1, hb7, hb9]) <;> (with_reducible and_intros) <;> first | assumption | rfl | omega | (unfold maxLen; omega)) rfl ?_
       refine adops_cut 1 (fun K' hK12 => ?_)
       try dsimp only [List.drop_succ_cons, List.drop_zero, List.take_succ_cons, List.take_zero]
       simp only [go_sem, hb1, hb7, hb9]
       repeat with_reducible refine zN ?_
       refine hK12 _ ?_
       as_aux_lemma =>
        obtain ⟨v0_3, hv13, h⟩ := Option.bind_eq_some_iff.1 h
        refine adops.call (by first | trivial | rfl) rfl rfl rfl (fun _ h => h) [41000] [(1000, 1000), (1001, 1001), (1002, 1002), (1003, 1003), (1004, 13)] (hc_refine_frame_traces_1_2 fuel v0_2 v0 a3 a4 st1.1 hv13) rfl (by (simp only [go_sem, hb1, hb7, hb9]) <;> (with_reducible and_intros) <;> first | assumption | rfl | omega | (unfold maxLen; omega)) (by (simp only [go_sem, hb1, hb7, hb9]) <;> (with_reducible and_intros) <;> first | assumption | rfl | omega | (unfold maxLen; omega)) rfl ?_
        refine adops_cut 0 (fun K' hK14 => ?_)
        try dsimp only [List.drop_succ_cons, List.drop_zero, List.take_succ_cons, List.take_zero]
        simp only [go_sem, hb1, hb7, hb9]
        repeat with_reducible refine zN ?_
        refine hK14 _ ?_
        refine adops_nil ?_
        refine ablock_n ?_
        refine athen_n ?_
        refine zV [(0, .sl (.int .i64) trace), (1, .int .u8 at0), (4, .bp 1002 0), (5, .bp 1003 0), (8, .int .i64 st1.2)] [(1000, .box 36 [.own 43000]), (1001, .box 3 [.int .i64 a3]), (1002, .box 71 (.int .i64 a4.1.1 :: (.sl (.pair (.int .i64) (.pair (.int .i64) (.int .i64))) a4.1.2 :: (cellsX T69 a4.2)))), (1003, .box 125 [.fn (.func 111) [] [.bp 1000 0, .bp 1001 0, .bp 1002 0, .bp 1003 0]]), (43000, .arr 27 (.sl (.int .i64)) v0_3)] gt ?_
        as_aux_lemma =>
         refine AW.ops ?_
         obtain ⟨c15, h⟩ := ck_some.1 h
         refine zA [(0, .sl (.int .i64) trace), (1, .int .u8 at0), (4, .bp 1002 0), (5, .bp 1003 0), (8, .int .i64 (st1.2 + 1))] [(1000, .box 36 [.own 43000]), (1001, .box 3 [.int .i64 a3]), (1002, .box 71 (.int .i64 a4.1.1 :: (.sl (.pair (.int .i64) (.pair (.int .i64) (.int .i64))) a4.1.2 :: (cellsX T69 a4.2)))), (1003, .box 125 [.fn (.func 111) [] [.bp 1000 0, .bp 1001 0, .bp 1002 0, .bp 1003 0]]), (43000, .arr 27 (.sl (.int .i64)) v0_3)] ?_
         obtain rfl := Option.some.inj h
         exact ⟨_, rfl, zL [] [] [(13, 43000)]⟩
    ·refine zm ?_
     refine athen_n ?_
     refine AW.ops ?_
     obtain ⟨c16, h⟩ := ck_some.1 h
     refine zA [(0, .sl (.int .i64) trace), (1, .int .u8 at0), (4, .bp 1002 0), (5, .bp 1003 0), (8, .int .i64 (st1.2 + 1))] [(13, .arr 27 (.sl (.int .i64)) st1.1), (1000, .box 36 [.own 13]), (1001, .box 3 [.int .i64 a3]), (1002, .box 71 (.int .i64 a4.1.1 :: (.sl (.pair (.int .i64) (.pair (.int .i64) (.int .i64))) a4.1.2 :: (cellsX T69 a4.2)))), (1003, .box 125 [.fn (.func 111) [] [.bp 1000 0, .bp 1001 0, .bp 1002 0, .bp 1003 0]])] ?_
     obtain rfl := Option.some.inj h
     exact ⟨_, rfl, zL [] [] []⟩
   ·refine AW.exit ?_
    refine athen_e ?_
    obtain rfl := Option.some.inj h
    rw [← hd4 _ rfl] at ho3
    have h := ho3
    refine athen_e ?_
    refine ablock_s ?_
    obtain rfl := Option.some.inj h
    exact zR [] [] [(2000, 13)]

theorem hc_refine_frame_traces (f : (Int × (List (Int × Int × Int))) × (El T69)) (most : Int) {r : (List (List Int))} (h : refine_frame_traces f most = some r) : HC Try.prog 78 [] [.agg (.int .i64 f.1.1 :: (.sl (.pair (.int .i64) (.pair (.int .i64) (.int .i64))) f.1.2 :: (cellsX T69 f.2))), .int .i64 most] [(2000, .arr 27 (.sl (.int .i64)) r)] (.own 2000) := by
 unfold refine_frame_traces at h
 refine zH Try.func78 [.tmp 4] 13 ?_
 refine zo ?_
 refine zB [(2, .bp 2 0), (3, .bp 3 0)] [(2, .box 71 (.int .i64 f.1.1 :: (.sl (.pair (.int .i64) (.pair (.int .i64) (.int .i64))) f.1.2 :: (cellsX T69 f.2)))), (3, .box 3 [.int .i64 most])] ?_
 refine zo ?_
 refine zB [(2, .bp 2 0), (3, .bp 3 0), (5, .bp 5 0)] [(2, .box 71 (.int .i64 f.1.1 :: (.sl (.pair (.int .i64) (.pair (.int .i64) (.int .i64))) f.1.2 :: (cellsX T69 f.2)))), (3, .box 3 [.int .i64 most]), (5, .box 36 [.cv (.slice none 0 0)])] ?_
 refine zo ?_
 refine zB [(2, .bp 2 0), (3, .bp 3 0), (5, .bp 5 0), (6, .bp 6 0)] [(2, .box 71 (.int .i64 f.1.1 :: (.sl (.pair (.int .i64) (.pair (.int .i64) (.int .i64))) f.1.2 :: (cellsX T69 f.2)))), (3, .box 3 [.int .i64 most]), (5, .box 36 [.cv (.slice none 0 0)]), (6, .box 125 [.cv (.nilFunc)])] ?_
 refine zo ?_
 refine zB [(2, .bp 2 0), (5, .bp 5 0), (6, .bp 6 0)] [(2, .box 71 (.int .i64 f.1.1 :: (.sl (.pair (.int .i64) (.pair (.int .i64) (.int .i64))) f.1.2 :: (cellsX T69 f.2)))), (3, .box 3 [.int .i64 most]), (5, .box 36 [.cv (.slice none 0 0)]), (6, .box 125 [.fn (.func 111) [] [.bp 5 0, .bp 3 0, .bp 2 0, .bp 6 0]])] ?_
 refine AW.seq ?_
 refine AW.draw tab_ok mixed_ok [(3, [2, 3, 5, 6, 21000])] [] (by decide) (by kernel_rfl) ?_
 as_aux_lemma =>
  refine adops_cut 2 (fun K' hK1 => ?_)
  try dsimp only [List.drop_succ_cons, List.drop_zero, List.take_succ_cons, List.take_zero]
  simp only [go_sem]
  repeat with_reducible refine zN ?_
  refine hK1 _ ?_
  as_aux_lemma =>
   obtain ⟨v0, hv2, h⟩ := Option.bind_eq_some_iff.1 h
   refine adops.call (by first | trivial | rfl) rfl rfl rfl (fun _ h => h) [] [] (hc_refine_frame_begin f hv2) rfl (by (simp only [go_sem]) <;> (with_reducible and_intros) <;> first | assumption | rfl | omega | (unfold maxLen; omega)) (by (simp only [go_sem]) <;> (with_reducible and_intros) <;> first | assumption | rfl | omega | (unfold maxLen; omega)) rfl ?_
   obtain ⟨v0_2, hv3, h⟩ := Option.bind_eq_some_iff.1 h
   refine adops.call (by first | trivial | rfl) rfl rfl rfl (fun _ h => h) [] [(1000, 5), (1001, 3), (1002, 2), (1003, 6)] (hc_refine_frame_traces_1 [] (intAt T69 f.2 0) most f hv3) rfl (by (simp only [go_sem]) <;> (with_reducible and_intros) <;> first | assumption | rfl | omega | (unfold maxLen; omega)) (by (simp only [go_sem]) <;> (with_reducible and_intros) <;> first | assumption | rfl | omega | (unfold maxLen; omega)) rfl ?_
   refine adops_cut 0 (fun K' hK4 => ?_)
   try dsimp only [List.drop_succ_cons, List.drop_zero, List.take_succ_cons, List.take_zero]
   simp only [go_sem]
   repeat with_reducible refine zN ?_
   refine hK4 _ ?_
   refine adops_nil ?_
   refine athen_n ?_
   refine zV [(5, .bp 5 0)] [(5, .box 36 [.own 21000]), (21000, .arr 27 (.sl (.int .i64)) v0_2)] gt ?_
   as_aux_lemma =>
    refine zo ?_
    refine zB [(4, .own 21000)] [(21000, .arr 27 (.sl (.int .i64)) v0_2)] ?_
    refine AW.ret ?_
    obtain rfl := Option.some.inj h
    exact zR [] [] [(2000, 21000)]

theorem hc_refine_Traces (s : Int × (List (Int × Int × Int))) (most : Int) {r : (List (List Int)) × Int} (h : refine_Traces s most = some r) : HC Try.prog 29 [] [.agg [.int .i64 s.1, .sl (.pair (.int .i64) (.pair (.int .i64) (.int .i64))) s.2], .int .i64 most] [(2000, .arr 27 (.sl (.int .i64)) r.1)] (.tup [.own 2000, .int .i64 r.2]) := by
 unfold refine_Traces at h
 refine zH Try.func29 [.tmp 4, .tmp 5] 25 ?_
 refine zo ?_
 refine zB [(1, .int .i64 most), (2, .bp 2 0)] [(2, .box 24 [.int .i64 s.1, .sl (.pair (.int .i64) (.pair (.int .i64) (.int .i64))) s.2])] ?_
 refine zo ?_
 refine zS 1 [(1, .int .i64 most), (9, .agg [.int .i64 s.1, .sl (.pair (.int .i64) (.pair (.int .i64) (.int .i64))) s.2])] [] ?_
 obtain ⟨v0, hv1, h⟩ := Option.bind_eq_some_iff.1 h
 refine zC [] [] (hc_refine_frameOf s hv1) [(1, .int .i64 most), (10, .tup [.agg (.int .i64 v0.1 :: (.sl (.pair (.int .i64) (.pair (.int .i64) (.int .i64))) v0.2.1 :: (cellsX T69 v0.2.2.1))), .int .i64 v0.2.2.2])] [] ?_
 refine zS 5 [(1, .int .i64 most), (6, .bp 6 0), (12, .int .i64 v0.2.2.2)] [(6, .box 71 (.int .i64 v0.1 :: (.sl (.pair (.int .i64) (.pair (.int .i64) (.int .i64))) v0.2.1 :: (cellsX T69 v0.2.2.1))))] ?_
 refine zB [(1, .int .i64 most), (6, .bp 6 0), (7, .int .i64 v0.2.2.2)] [(6, .box 71 (.int .i64 v0.1 :: (.sl (.pair (.int .i64) (.pair (.int .i64) (.int .i64))) v0.2.1 :: (cellsX T69 v0.2.2.1))))] ?_
 refine AW.seq ?_
 refine zo ?_
 refine zB [(1, .int .i64 most), (6, .bp 6 0), (7, .int .i64 v0.2.2.2), (14, .bool (!(decide (v0.2.2.2 = 0))))] [(6, .box 71 (.int .i64 v0.1 :: (.sl (.pair (.int .i64) (.pair (.int .i64) (.int .i64))) v0.2.1 :: (cellsX T69 v0.2.2.1))))] ?_
 refine zQ h (fun hb2 h => ?_) (fun hb2 h => ?_)
 ·refine zo ?_
  refine zB [(4, .cv (.slice none 0 0)), (5, .int .i64 v0.2.2.2)] [] ?_
  refine zr ?_
  obtain rfl := Option.some.inj h
  exact zR [] [2000] []
 ·refine zk ?_
  refine AW.seq ?_
  refine zo ?_
  refine zS 3 [(1, .int .i64 most), (6, .bp 6 0), (18, .bool (decide (most < 0)))] [(6, .box 71 (.int .i64 v0.1 :: (.sl (.pair (.int .i64) (.pair (.int .i64) (.int .i64))) v0.2.1 :: (cellsX T69 v0.2.2.1))))] ?_
  rcases zI h with ⟨hb3, h⟩ | ⟨hb3, h⟩
  ·refine zB [(1, .int .i64 most), (6, .bp 6 0), (21, .bool true)] [(6, .box 71 (.int .i64 v0.1 :: (.sl (.pair (.int .i64) (.pair (.int .i64) (.int .i64))) v0.2.1 :: (cellsX T69 v0.2.2.1))))] ?_
   refine AW.cond (b := true) rfl (fun _ => ?_) (fun hb4 => by cases hb4)
   refine zo ?_
   refine zB [(4, .cv (.slice none 0 0)), (5, .int .i64 2)] [] ?_
   refine zr ?_
   obtain rfl := Option.some.inj h
   exact zR [] [2000] []
  ·refine zB [(1, .int .i64 most), (6, .bp 6 0), (21, .bool (decide (5 < most)))] [(6, .box 71 (.int .i64 v0.1 :: (.sl (.pair (.int .i64) (.pair (.int .i64) (.int .i64))) v0.2.1 :: (cellsX T69 v0.2.2.1))))] ?_
   refine zQ h (fun hb5 h => ?_) (fun hb5 h => ?_)
   ·refine zo ?_
    refine zB [(4, .cv (.slice none 0 0)), (5, .int .i64 2)] [] ?_
    refine zr ?_
    obtain rfl := Option.some.inj h
    exact zR [] [2000] []
   ·refine zk ?_
    refine zo ?_
    refine zS 2 [(22, .agg (.int .i64 v0.1 :: (.sl (.pair (.int .i64) (.pair (.int .i64) (.int .i64))) v0.2.1 :: (cellsX T69 v0.2.2.1)))), (23, .int .i64 most)] [] ?_
    obtain ⟨v0_2, hv6, h⟩ := Option.bind_eq_some_iff.1 h
    refine zC [] [] (hc_refine_frame_traces ((v0.1, v0.2.1), v0.2.2.1) most hv6) [(24, .own 34000)] [(34000, .arr 27 (.sl (.int .i64)) v0_2)] ?_
    refine zB [(4, .own 34000), (5, .int .i64 0)] [(34000, .arr 27 (.sl (.int .i64)) v0_2)] ?_
    refine AW.ret ?_
    obtain rfl := Option.some.inj h
    exact zR [] [] [(2000, 34000)]

theorem hc_lineallaw05_valid (l : List (Int × (List (Int × Int × Int)))) {r : Bool} (h : lineallaw05_valid l = some r) : HC Try.prog 56 [] [.sl (.pair (.int .i64) (.sl (.pair (.int .i64) (.pair (.int .i64) (.int .i64))))) l] [] (.bool r) := by
 unfold lineallaw05_valid at h
 refine zH Try.func56 [.tmp 2] 19 ?_
 refine zo ?_
 refine zB [(0, .sl (.pair (.int .i64) (.sl (.pair (.int .i64) (.pair (.int .i64) (.int .i64))))) l)] [] ?_
 refine AW.have1 (fun _ : Unit => lineallaw05_valid_k1 = some r) (fun _ => ⟨fr [], hpGet [], gt⟩) (fun _ h => ?_) (fun hk_lineallaw05_valid_k1 => ?_)
 ·as_aux_lemma =>
   unfold lineallaw05_valid_k1 at h
   refine zo ?_
   refine zB [(2, .bool true)] [] ?_
   refine AW.ret ?_
   obtain rfl := Option.some.inj h
   exact zR [] [] []
 ·refine AW.seq ?_
  refine zo ?_
  refine zB [(5, .sl (.pair (.int .i64) (.sl (.pair (.int .i64) (.pair (.int .i64) (.int .i64))))) l), (6, .int .i64 (l.length : Int)), (7, .int .i64 0)] [] ?_
  refine AW.block ?_
  obtain ⟨rv5, hw1, ho2⟩ := Option.bind_eq_some_iff.1 h
  refine AW.loopO (lineallaw05_valid_b1 l) (fun st1 => ⟨fr [(5, .sl (.pair (.int .i64) (.sl (.pair (.int .i64) (.pair (.int .i64) (.int .i64))))) l), (6, .int .i64 (l.length : Int)), (7, .int .i64 st1)], hpGet [], gt⟩) 0 hw1 (zL [] [] []) ?_
  as_aux_lemma =>
   intro st1 x4 h hd3
   unfold lineallaw05_valid_b1 at h
   refine zo ?_
   refine zB [(5, .sl (.pair (.int .i64) (.sl (.pair (.int .i64) (.pair (.int .i64) (.int .i64))))) l), (6, .int .i64 (l.length : Int)), (7, .int .i64 st1), (8, .bool (decide (st1 < (l.length : Int))))] [] ?_
   refine AW.seq ?_
   refine zQ h (fun hb6 h => ?_) (fun hb6 h => ?_)
   ·refine zk ?_
    refine AW.seq ?_
    refine AW.block ?_
    refine zo ?_
    obtain ⟨c7, h⟩ := ck_some.1 h
    obtain ⟨c8, h⟩ := ck_some.1 h
    refine zB [(4, .bp 4 0), (5, .sl (.pair (.int .i64) (.sl (.pair (.int .i64) (.pair (.int .i64) (.int .i64))))) l), (6, .int .i64 (l.length : Int)), (7, .int .i64 st1)] [(4, .box 24 [.int .i64 (l.getD st1.toNat (0, [])).1, .sl (.pair (.int .i64) (.pair (.int .i64) (.int .i64))) (l.getD st1.toNat (0, [])).2])] ?_
    refine zo ?_
    refine zS 1 [(4, .bp 4 0), (5, .sl (.pair (.int .i64) (.sl (.pair (.int .i64) (.pair (.int .i64) (.int .i64))))) l), (6, .int .i64 (l.length : Int)), (7, .int .i64 st1), (11, .agg [.int .i64 (l.getD st1.toNat (0, [])).1, .sl (.pair (.int .i64) (.pair (.int .i64) (.int .i64))) (l.getD st1.toNat (0, [])).2])] [(4, .box 24 [.int .i64 (l.getD st1.toNat (0, [])).1, .sl (.pair (.int .i64) (.pair (.int .i64) (.int .i64))) (l.getD st1.toNat (0, [])).2])] ?_
    obtain ⟨v0, hv9, h⟩ := Option.bind_eq_some_iff.1 h
    refine zC [] [] (hc_lineallaw05_Long (l.getD st1.toNat (0, [])) hv9) [(4, .bp 4 0), (5, .sl (.pair (.int .i64) (.sl (.pair (.int .i64) (.pair (.int .i64) (.int .i64))))) l), (6, .int .i64 (l.length : Int)), (7, .int .i64 st1), (12, .bool (decide (100 < ((l.getD st1.toNat (0, [])).2.length : Int))))] [(4, .box 24 [.int .i64 (l.getD st1.toNat (0, [])).1, .sl (.pair (.int .i64) (.pair (.int .i64) (.int .i64))) (l.getD st1.toNat (0, [])).2])] ?_
    refine zS 1 [(4, .bp 4 0), (5, .sl (.pair (.int .i64) (.sl (.pair (.int .i64) (.pair (.int .i64) (.int .i64))))) l), (6, .int .i64 (l.length : Int)), (7, .int .i64 st1), (13, .bool (decide (100 < ((l.getD st1.toNat (0, [])).2.length : Int))))] [(4, .box 24 [.int .i64 (l.getD st1.toNat (0, [])).1, .sl (.pair (.int .i64) (.pair (.int .i64) (.int .i64))) (l.getD st1.toNat (0, [])).2])] ?_
    rcases zI h with ⟨hb10, h⟩ | ⟨hb10, h⟩
    ·refine zB [(5, .sl (.pair (.int .i64) (.sl (.pair (.int .i64) (.pair (.int .i64) (.int .i64))))) l), (6, .int .i64 (l.length : Int)), (7, .int .i64 st1), (17, .bool true)] [] ?_
     refine AW.cond (b := true) rfl (fun _ => ?_) (fun hb11 => by cases hb11)
     refine zo ?_
     refine zB [(2, .bool false)] [] ?_
     refine AW.ret ?_
     refine ablock_r ?_
     refine athen_r ?_
     obtain rfl := Option.some.inj h
     rw [← hd3 _ rfl] at ho2
     have h := ho2
     try simp only at h
     refine athen_r ?_
     refine ablock_r ?_
     refine athen_r ?_
     obtain rfl := Option.some.inj h
     exact zR [] [] []
    ·refine zS 1 [(5, .sl (.pair (.int .i64) (.sl (.pair (.int .i64) (.pair (.int .i64) (.int .i64))))) l), (6, .int .i64 (l.length : Int)), (7, .int .i64 st1), (13, .bool false), (14, .agg [.int .i64 (l.getD st1.toNat (0, [])).1, .sl (.pair (.int .i64) (.pair (.int .i64) (.int .i64))) (l.getD st1.toNat (0, [])).2])] [] ?_
     obtain ⟨v0_2, hv12, h⟩ := Option.bind_eq_some_iff.1 h
     refine zG [] [] (hc_linealref05_Valid (l.getD st1.toNat (0, [])) hv12) [(5, .sl (.pair (.int .i64) (.sl (.pair (.int .i64) (.pair (.int .i64) (.int .i64))))) l), (6, .int .i64 (l.length : Int)), (7, .int .i64 st1), (13, .bool false), (15, .bool v0_2)] [] ?_
     refine zB [(5, .sl (.pair (.int .i64) (.sl (.pair (.int .i64) (.pair (.int .i64) (.int .i64))))) l), (6, .int .i64 (l.length : Int)), (7, .int .i64 st1), (17, .bool (!v0_2))] [] ?_
     refine zQ h (fun hb13 h => ?_) (fun hb13 h => ?_)
     ·refine zo ?_
      refine zB [(2, .bool false)] [] ?_
      refine AW.ret ?_
      refine ablock_r ?_
      refine athen_r ?_
      obtain rfl := Option.some.inj h
      rw [← hd3 _ rfl] at ho2
      have h := ho2
      try simp only at h
      refine athen_r ?_
      refine ablock_r ?_
      refine athen_r ?_
      obtain rfl := Option.some.inj h
      exact zR [] [] []
     ·refine zm ?_
      refine athen_n ?_
      refine AW.ops ?_
      obtain ⟨c14, h⟩ := ck_some.1 h
      refine zA [(5, .sl (.pair (.int .i64) (.sl (.pair (.int .i64) (.pair (.int .i64) (.int .i64))))) l), (6, .int .i64 (l.length : Int)), (7, .int .i64 (st1 + 1))] [] ?_
      obtain rfl := Option.some.inj h
      exact ⟨_, rfl, zL [] [] []⟩
   ·refine AW.exit ?_
    refine athen_e ?_
    obtain rfl := Option.some.inj h
    rw [← hd3 _ rfl] at ho2
    have h := ho2
    try simp only at h
    refine athen_e ?_
    refine ablock_s ?_
    refine athen_n ?_
    exact AW.weaken (zL [] [] []) (hk_lineallaw05_valid_k1 () h)

theorem hc_refine_relation_list (r0 : (El T94)) {r : (List (Int × Int))} (h : refine_relation_list r0 = some r) : HC Try.prog 82 [] [.agg (cellsX T94 r0)] [(2000, .arr 58 (.pair (.int .i64) (.int .i64)) r)] (.own 2000) := by
 unfold refine_relation_list at h
 refine zH Try.func82 [.tmp 2] 29 ?_
 refine zo ?_
 refine zB [(1, .bp 1 0)] [(1, .box 94 (cellsX T94 r0))] ?_
 refine zo ?_
 refine zB [(1, .bp 1 0), (3, .cv (.slice none 0 0))] [(1, .box 94 (cellsX T94 r0))] ?_
 refine AW.have1 (fun b2_2 : (List (Int × Int)) => refine_relation_list_k1 b2_2 = some r) (fun b2_2 => ⟨fr [(3, .own 25)], hpGet [(25, .arr 58 (.pair (.int .i64) (.int .i64)) b2_2)], gt⟩) (fun b2_2 h => ?_) (fun hk_refine_relation_list_k1 => ?_)
 ·as_aux_lemma =>
   unfold refine_relation_list_k1 at h
   refine zo ?_
   refine zB [(2, .own 25)] [(25, .arr 58 (.pair (.int .i64) (.int .i64)) b2_2)] ?_
   refine AW.ret ?_
   obtain rfl := Option.some.inj h
   exact zR [] [] [(2000, 25)]
 ·refine AW.seq ?_
  refine zo ?_
  refine zB [(3, .cv (.slice none 0 0)), (8, .agg (cellsX T94 r0)), (9, .int .i64 0)] [] ?_
  refine AW.block ?_
  obtain ⟨rv5, hw1, ho2⟩ := Option.bind_eq_some_iff.1 h
  refine AW.loopO (refine_relation_list_b1 r0) (fun st1 => ⟨fr [(3, .own 25), (8, .agg (cellsX T94 r0)), (9, .int .i64 st1.2)], hpGet [(25, .arr 58 (.pair (.int .i64) (.int .i64)) st1.1)], gt⟩) ([], 0) hw1 (zL [] [25] []) ?_
  as_aux_lemma =>
   intro st1 x4 h hd3
   unfold refine_relation_list_b1 at h
   refine zo ?_
   refine zB [(3, .own 25), (8, .agg (cellsX T94 r0)), (9, .int .i64 st1.2), (10, .bool (decide (st1.2 < 6)))] [(25, .arr 58 (.pair (.int .i64) (.int .i64)) st1.1)] ?_
   refine AW.seq ?_
   refine zQ h (fun hb6 h => ?_) (fun hb6 h => ?_)
   ·refine zk ?_
    refine AW.have1 (fun b2 : (List (Int × Int)) => refine_relation_list_k2 st1 b2 = some x4) (fun b2 => ⟨fr [(3, .own 25), (8, .agg (cellsX T94 r0)), (9, .int .i64 st1.2)], hpGet [(25, .arr 58 (.pair (.int .i64) (.int .i64)) b2)], gt⟩) (fun b2 h => ?_) (fun hk_refine_relation_list_k2 => ?_)
    ·as_aux_lemma =>
      unfold refine_relation_list_k2 at h
      refine AW.ops ?_
      obtain ⟨c7, h⟩ := ck_some.1 h
      refine zA [(3, .own 25), (8, .agg (cellsX T94 r0)), (9, .int .i64 (st1.2 + 1))] [(25, .arr 58 (.pair (.int .i64) (.int .i64)) b2)] ?_
      obtain rfl := Option.some.inj h
      exact ⟨_, rfl, zL [] [] []⟩
    ·refine AW.seq ?_
     refine AW.block ?_
     refine zo ?_
     refine zS 1 [(3, .own 25), (8, .agg (cellsX T94 r0)), (9, .int .i64 st1.2), (11, .int .i64 st1.2)] [(25, .arr 58 (.pair (.int .i64) (.int .i64)) st1.1)] ?_
     obtain ⟨c8, h⟩ := ck_some.1 h
     obtain ⟨c9, h⟩ := ck_some.1 h
     have hx10 : (st1.2.toNat * 1) < 6 := by omega
     refine AO.idxA tab_ok (by decide) rfl rfl tab_94 rfl tab_67 rfl rfl (by first | assumption | omega | (simp only [go_sem, hb6, hx10]) <;> (with_reducible and_intros) <;> first | assumption | rfl | omega | (unfold maxLen; omega)) (by first | assumption | omega | (simp only [go_sem, hb6, hx10]) <;> (with_reducible and_intros) <;> first | assumption | rfl | omega | (unfold maxLen; omega)) (by first | assumption | omega | (simp only [go_sem, hb6, hx10]) <;> (with_reducible and_intros) <;> first | assumption | rfl | omega | (unfold maxLen; omega)) (.inr rfl) (v := .int .u8 (intAt T94 r0 (st1.2.toNat * 1))) (by first | assumption | omega | (simp only [go_sem, hb6, hx10]) <;> (with_reducible and_intros) <;> first | assumption | rfl | omega | (unfold maxLen; omega)) ?_
     refine zT [(3, .own 25), (8, .agg (cellsX T94 r0)), (9, .int .i64 st1.2), (11, .int .i64 st1.2), (12, .int .u8 (intAt T94 r0 (st1.2.toNat * 1)))] [(25, .arr 58 (.pair (.int .i64) (.int .i64)) st1.1)] gt ?_
     refine zB [(3, .own 25), (4, .int .i64 st1.2), (5, .int .u8 (intAt T94 r0 (st1.2.toNat * 1))), (8, .agg (cellsX T94 r0)), (9, .int .i64 st1.2)] [(25, .arr 58 (.pair (.int .i64) (.int .i64)) st1.1)] ?_
     refine zo ?_
     refine zS 1 [(3, .own 25), (4, .int .i64 st1.2), (8, .agg (cellsX T94 r0)), (9, .int .i64 st1.2), (13, .int .u8 (intAt T94 r0 (st1.2.toNat * 1)))] [(25, .arr 58 (.pair (.int .i64) (.int .i64)) st1.1)] ?_
     obtain ⟨v0, hv11, h⟩ := Option.bind_eq_some_iff.1 h
     refine zC [] [] (hc_refine_set_states (intAt T94 r0 (st1.2.toNat * 1)) hv11) [(3, .own 25), (4, .int .i64 st1.2), (8, .agg (cellsX T94 r0)), (9, .int .i64 st1.2), (14, .own 24000)] [(25, .arr 58 (.pair (.int .i64) (.int .i64)) st1.1), (24000, .arr 3 (.int .i64) v0)] ?_
     refine zB [(3, .own 25), (4, .int .i64 st1.2), (8, .agg (cellsX T94 r0)), (9, .int .i64 st1.2), (14, .own 24000), (15, .int .i64 (v0.length : Int)), (16, .int .i64 0)] [(25, .arr 58 (.pair (.int .i64) (.int .i64)) st1.1), (24000, .arr 3 (.int .i64) v0)] ?_
     refine AW.block ?_
     obtain ⟨rv16, hw12, ho13⟩ := Option.bind_eq_some_iff.1 h
     refine AW.loopO (refine_relation_list_b2 st1 v0) (fun st2 => ⟨fr [(3, .own 25), (4, .int .i64 st1.2), (8, .agg (cellsX T94 r0)), (9, .int .i64 st1.2), (14, .own 24000), (15, .int .i64 (v0.length : Int)), (16, .int .i64 st2.2)], hpGet [(25, .arr 58 (.pair (.int .i64) (.int .i64)) st2.1), (24000, .arr 3 (.int .i64) v0)], gt⟩) (st1.1, 0) hw12 (zL [] [] []) ?_
     as_aux_lemma =>
      intro st2 x15 h hd14
      unfold refine_relation_list_b2 at h
      refine zo ?_
      refine zB [(3, .own 25), (4, .int .i64 st1.2), (8, .agg (cellsX T94 r0)), (9, .int .i64 st1.2), (14, .own 24000), (15, .int .i64 (v0.length : Int)), (16, .int .i64 st2.2), (17, .bool (decide (st2.2 < (v0.length : Int))))] [(25, .arr 58 (.pair (.int .i64) (.int .i64)) st2.1), (24000, .arr 3 (.int .i64) v0)] ?_
      refine AW.seq ?_
      refine zQ h (fun hb17 h => ?_) (fun hb17 h => ?_)
      ·refine zk ?_
       refine AW.seq ?_
       refine AW.block ?_
       refine zo ?_
       obtain ⟨c18, h⟩ := ck_some.1 h
       obtain ⟨c19, h⟩ := ck_some.1 h
       refine zB [(3, .own 25), (4, .int .i64 st1.2), (7, .int .i64 (v0.getD st2.2.toNat 0)), (8, .agg (cellsX T94 r0)), (9, .int .i64 st1.2), (14, .own 24000), (15, .int .i64 (v0.length : Int)), (16, .int .i64 st2.2)] [(25, .arr 58 (.pair (.int .i64) (.int .i64)) st2.1), (24000, .arr 3 (.int .i64) v0)] ?_
       refine AW.ops ?_
       refine zS 5 [(4, .int .i64 st1.2), (8, .agg (cellsX T94 r0)), (9, .int .i64 st1.2), (14, .own 24000), (15, .int .i64 (v0.length : Int)), (16, .int .i64 st2.2), (20, .own 25), (24, .own 24)] [(24, .arr 58 (.pair (.int .i64) (.int .i64)) [(st1.2, (v0.getD st2.2.toNat 0))]), (25, .arr 58 (.pair (.int .i64) (.int .i64)) st2.1), (24000, .arr 3 (.int .i64) v0)] ?_
       obtain ⟨c20, h⟩ := ck_some.1 h
       refine zA [(3, .own 25), (4, .int .i64 st1.2), (8, .agg (cellsX T94 r0)), (9, .int .i64 st1.2), (14, .own 24000), (15, .int .i64 (v0.length : Int)), (16, .int .i64 st2.2)] [(25, .arr 58 (.pair (.int .i64) (.int .i64)) (st2.1 ++ [(st1.2, (v0.getD st2.2.toNat 0))])), (24000, .arr 3 (.int .i64) v0)] ?_
       refine ablock_n ?_
       refine athen_n ?_
       refine AW.ops ?_
       obtain ⟨c21, h⟩ := ck_some.1 h
       refine zA [(3, .own 25), (4, .int .i64 st1.2), (8, .agg (cellsX T94 r0)), (9, .int .i64 st1.2), (14, .own 24000), (15, .int .i64 (v0.length : Int)), (16, .int .i64 (st2.2 + 1))] [(25, .arr 58 (.pair (.int .i64) (.int .i64)) (st2.1 ++ [(st1.2, (v0.getD st2.2.toNat 0))])), (24000, .arr 3 (.int .i64) v0)] ?_
       obtain rfl := Option.some.inj h
       exact ⟨_, rfl, zL [] [] []⟩
      ·refine AW.exit ?_
       refine athen_e ?_
       obtain rfl := Option.some.inj h
       rw [← hd14 _ rfl] at ho13
       have h := ho13
       refine athen_e ?_
       refine ablock_s ?_
       refine ablock_n ?_
       refine athen_n ?_
       exact AW.weaken (zL [] [] []) (hk_refine_relation_list_k2 _ h)
   ·refine AW.exit ?_
    refine athen_e ?_
    obtain rfl := Option.some.inj h
    rw [← hd3 _ rfl] at ho2
    have h := ho2
    refine athen_e ?_
    refine ablock_s ?_
    refine athen_n ?_
    exact AW.weaken (zL [] [] []) (hk_refine_relation_list_k1 _ h)

theorem hc_refine_two_follows (t : ((Int × (List (Int × Int × Int))) × (El T69)) × (Int × (List (Int × Int × Int))) × (El T69)) (r0 : (El T94)) (x0 : Int) (y : Int) {r : Bool} (h : refine_two_follows t r0 x0 y = some r) : HC Try.prog 116 [] [.agg (.int .i64 t.1.1.1 :: (.sl (.pair (.int .i64) (.pair (.int .i64) (.int .i64))) t.1.1.2 :: (cellsX T69 t.1.2 ++ (.int .i64 t.2.1.1 :: (.sl (.pair (.int .i64) (.pair (.int .i64) (.int .i64))) t.2.1.2 :: (cellsX T69 t.2.2)))))), .agg (cellsX T94 r0), .int .i64 x0, .int .i64 y] [] (.bool r) := by
 unfold refine_two_follows at h
 refine zH Try.func116 [.tmp 8] 41 ?_
 refine zo ?_
 refine zB [(2, .int .i64 x0), (3, .int .i64 y), (4, .bp 4 0), (5, .bp 5 0)] [(4, .box 90 (.int .i64 t.1.1.1 :: (.sl (.pair (.int .i64) (.pair (.int .i64) (.int .i64))) t.1.1.2 :: (cellsX T69 t.1.2 ++ (.int .i64 t.2.1.1 :: (.sl (.pair (.int .i64) (.pair (.int .i64) (.int .i64))) t.2.1.2 :: (cellsX T69 t.2.2))))))), (5, .box 94 (cellsX T94 r0))] ?_
 refine AW.have1 (fun _ : Unit => refine_two_follows_k1 = some r) (fun _ => ⟨fr [], hpGet [], gt⟩) (fun _ h => ?_) (fun hk_refine_two_follows_k1 => ?_)
 ·as_aux_lemma =>
   unfold refine_two_follows_k1 at h
   refine zo ?_
   refine zB [(8, .bool true)] [] ?_
   refine AW.ret ?_
   obtain rfl := Option.some.inj h
   exact zR [] [] []
 ·refine AW.seq ?_
  refine zo ?_
  refine zS 5 [(2, .int .i64 x0), (3, .int .i64 y), (4, .bp 4 0), (5, .bp 5 0), (14, .sl (.pair (.int .i64) (.pair (.int .i64) (.int .i64))) t.1.1.2), (15, .int .i64 (t.1.1.2.length : Int))] [(4, .box 90 (.int .i64 t.1.1.1 :: (.sl (.pair (.int .i64) (.pair (.int .i64) (.int .i64))) t.1.1.2 :: (cellsX T69 t.1.2 ++ (.int .i64 t.2.1.1 :: (.sl (.pair (.int .i64) (.pair (.int .i64) (.int .i64))) t.2.1.2 :: (cellsX T69 t.2.2))))))), (5, .box 94 (cellsX T94 r0))] ?_
  refine zB [(2, .int .i64 x0), (3, .int .i64 y), (4, .bp 4 0), (5, .bp 5 0), (14, .sl (.pair (.int .i64) (.pair (.int .i64) (.int .i64))) t.1.1.2), (15, .int .i64 (t.1.1.2.length : Int)), (16, .int .i64 0)] [(4, .box 90 (.int .i64 t.1.1.1 :: (.sl (.pair (.int .i64) (.pair (.int .i64) (.int .i64))) t.1.1.2 :: (cellsX T69 t.1.2 ++ (.int .i64 t.2.1.1 :: (.sl (.pair (.int .i64) (.pair (.int .i64) (.int .i64))) t.2.1.2 :: (cellsX T69 t.2.2))))))), (5, .box 94 (cellsX T94 r0))] ?_
  refine AW.block ?_
  obtain ⟨rv5, hw1, ho2⟩ := Option.bind_eq_some_iff.1 h
  refine AW.loopO (refine_two_follows_b1 t r0 x0 y) (fun st1 => ⟨fr [(2, .int .i64 x0), (3, .int .i64 y), (4, .bp 4 0), (5, .bp 5 0), (14, .sl (.pair (.int .i64) (.pair (.int .i64) (.int .i64))) t.1.1.2), (15, .int .i64 (t.1.1.2.length : Int)), (16, .int .i64 st1)], hpGet [(4, .box 90 (.int .i64 t.1.1.1 :: (.sl (.pair (.int .i64) (.pair (.int .i64) (.int .i64))) t.1.1.2 :: (cellsX T69 t.1.2 ++ (.int .i64 t.2.1.1 :: (.sl (.pair (.int .i64) (.pair (.int .i64) (.int .i64))) t.2.1.2 :: (cellsX T69 t.2.2))))))), (5, .box 94 (cellsX T94 r0))], gt⟩) 0 hw1 (zL [] [] []) ?_
  as_aux_lemma =>
   intro st1 x4 h hd3
   unfold refine_two_follows_b1 at h
   refine zo ?_
   refine zB [(2, .int .i64 x0), (3, .int .i64 y), (4, .bp 4 0), (5, .bp 5 0), (14, .sl (.pair (.int .i64) (.pair (.int .i64) (.int .i64))) t.1.1.2), (15, .int .i64 (t.1.1.2.length : Int)), (16, .int .i64 st1), (17, .bool (decide (st1 < (t.1.1.2.length : Int))))] [(4, .box 90 (.int .i64 t.1.1.1 :: (.sl (.pair (.int .i64) (.pair (.int .i64) (.int .i64))) t.1.1.2 :: (cellsX T69 t.1.2 ++ (.int .i64 t.2.1.1 :: (.sl (.pair (.int .i64) (.pair (.int .i64) (.int .i64))) t.2.1.2 :: (cellsX T69 t.2.2))))))), (5, .box 94 (cellsX T94 r0))] ?_
   refine AW.seq ?_
   refine zQ h (fun hb6 h => ?_) (fun hb6 h => ?_)
   ·refine zk ?_
    refine AW.seq ?_
    refine AW.block ?_
    refine zo ?_
    obtain ⟨c7, h⟩ := ck_some.1 h
    obtain ⟨c8, h⟩ := ck_some.1 h
    refine zB [(2, .int .i64 x0), (3, .int .i64 y), (4, .bp 4 0), (5, .bp 5 0), (10, .bp 10 0), (14, .sl (.pair (.int .i64) (.pair (.int .i64) (.int .i64))) t.1.1.2), (15, .int .i64 (t.1.1.2.length : Int)), (16, .int .i64 st1)] [(4, .box 90 (.int .i64 t.1.1.1 :: (.sl (.pair (.int .i64) (.pair (.int .i64) (.int .i64))) t.1.1.2 :: (cellsX T69 t.1.2 ++ (.int .i64 t.2.1.1 :: (.sl (.pair (.int .i64) (.pair (.int .i64) (.int .i64))) t.2.1.2 :: (cellsX T69 t.2.2))))))), (5, .box 94 (cellsX T94 r0)), (10, .box 66 [.int .i64 (t.1.1.2.getD st1.toNat (0, 0, 0)).1, .int .i64 (t.1.1.2.getD st1.toNat (0, 0, 0)).2.1, .int .i64 (t.1.1.2.getD st1.toNat (0, 0, 0)).2.2])] ?_
    refine AW.seq ?_
    refine AW.draw tab_ok mixed_ok [] [] (by decide) (lex_fast (by kernel_rfl)) ?_
    as_aux_lemma =>
     refine adops_cut 5 (fun K' hK9 => ?_)
     try dsimp only [List.drop_succ_cons, List.drop_zero, List.take_succ_cons, List.take_zero]
     simp only [go_sem, hb6]
     repeat with_reducible refine zN ?_
     refine hK9 _ ?_
     as_aux_lemma =>
      rcases zI h with ⟨hb10, h⟩ | ⟨hb10, h⟩
      ·simp only [hb10]
       as_aux_lemma =>
        obtain ⟨c12, h⟩ := ck_some.1 h
        obtain ⟨c13, h⟩ := ck_some.1 h
        refine adops_cut 6 (fun K' hK11 => ?_)
        try dsimp only [List.drop_succ_cons, List.drop_zero, List.take_succ_cons, List.take_zero]
        simp only [go_sem, hb6, hb10]
        repeat with_reducible refine zN ?_
        refine hK11 _ ?_
        as_aux_lemma =>
         obtain ⟨c15, h⟩ := ck_some.1 h
         obtain ⟨c16, h⟩ := ck_some.1 h
         have hx17 : ((y.toNat * 4) + (t.1.1.2.getD st1.toNat (0, 0, 0)).2.1.toNat * 1) < 24 := by omega
         obtain ⟨c18, h⟩ := ck_some.1 h
         obtain ⟨c19, h⟩ := ck_some.1 h
         have hx20 : (0 + (t.1.1.2.getD st1.toNat (0, 0, 0)).2.2.toNat * 1) < 6 := by omega
         refine adops_cut 6 (fun K' hK14 => ?_)
         try dsimp only [List.drop_succ_cons, List.drop_zero, List.take_succ_cons, List.take_zero]
         simp only [go_sem, hb6, hb10, hx17, hx20]
         repeat with_reducible refine zN ?_
         refine hK14 _ ?_
         as_aux_lemma =>
          refine adops_cut 3 (fun K' hK21 => ?_)
          try dsimp only [List.drop_succ_cons, List.drop_zero, List.take_succ_cons, List.take_zero]
          simp only [go_sem, hb6, hb10, hx17, hx20]
          repeat with_reducible refine zN ?_
          refine hK21 _ ?_
          refine adops_nil ?_
          refine athen_n ?_
          refine zV [(2, .int .i64 x0), (3, .int .i64 y), (4, .bp 4 0), (5, .bp 5 0), (14, .sl (.pair (.int .i64) (.pair (.int .i64) (.int .i64))) t.1.1.2), (15, .int .i64 (t.1.1.2.length : Int)), (16, .int .i64 st1), (39, .bool (decide ((iand .u8 (intAt T69 t.2.2 ((y.toNat * 4) + (t.1.1.2.getD st1.toNat (0, 0, 0)).2.1.toNat * 1)) (intAt T94 r0 (0 + (t.1.1.2.getD st1.toNat (0, 0, 0)).2.2.toNat * 1))) = 0)))] [(4, .box 90 (.int .i64 t.1.1.1 :: (.sl (.pair (.int .i64) (.pair (.int .i64) (.int .i64))) t.1.1.2 :: (cellsX T69 t.1.2 ++ (.int .i64 t.2.1.1 :: (.sl (.pair (.int .i64) (.pair (.int .i64) (.int .i64))) t.2.1.2 :: (cellsX T69 t.2.2))))))), (5, .box 94 (cellsX T94 r0))] gt ?_
          as_aux_lemma =>
           refine zQ h (fun hb22 h => ?_) (fun hb22 h => ?_)
           ·refine zo ?_
            refine zB [(8, .bool false)] [] ?_
            refine AW.ret ?_
            refine ablock_r ?_
            refine athen_r ?_
            obtain rfl := Option.some.inj h
            rw [← hd3 _ rfl] at ho2
            have h := ho2
            try simp only at h
            refine athen_r ?_
            refine ablock_r ?_
            refine athen_r ?_
            obtain rfl := Option.some.inj h
            exact zR [] [] []
           ·refine zm ?_
            refine athen_n ?_
            refine AW.ops ?_
            obtain ⟨c23, h⟩ := ck_some.1 h
            refine zA [(2, .int .i64 x0), (3, .int .i64 y), (4, .bp 4 0), (5, .bp 5 0), (14, .sl (.pair (.int .i64) (.pair (.int .i64) (.int .i64))) t.1.1.2), (15, .int .i64 (t.1.1.2.length : Int)), (16, .int .i64 (st1 + 1))] [(4, .box 90 (.int .i64 t.1.1.1 :: (.sl (.pair (.int .i64) (.pair (.int .i64) (.int .i64))) t.1.1.2 :: (cellsX T69 t.1.2 ++ (.int .i64 t.2.1.1 :: (.sl (.pair (.int .i64) (.pair (.int .i64) (.int .i64))) t.2.1.2 :: (cellsX T69 t.2.2))))))), (5, .box 94 (cellsX T94 r0))] ?_
            obtain rfl := Option.some.inj h
            exact ⟨_, rfl, zL [] [] []⟩
      ·simp only [hb10]
       as_aux_lemma =>
        refine adops_cut 4 (fun K' hK24 => ?_)
        try dsimp only [List.drop_succ_cons, List.drop_zero, List.take_succ_cons, List.take_zero]
        simp only [go_sem, hb6, hb10]
        repeat with_reducible refine zN ?_
        refine hK24 _ ?_
        as_aux_lemma =>
         refine adops_cut 4 (fun K' hK25 => ?_)
         try dsimp only [List.drop_succ_cons, List.drop_zero, List.take_succ_cons, List.take_zero]
         simp only [go_sem, hb6, hb10]
         repeat with_reducible refine zN ?_
         refine hK25 _ ?_
         as_aux_lemma =>
          refine adops_cut 4 (fun K' hK26 => ?_)
          try dsimp only [List.drop_succ_cons, List.drop_zero, List.take_succ_cons, List.take_zero]
          simp only [go_sem, hb6, hb10]
          repeat with_reducible refine zN ?_
          refine hK26 _ ?_
          as_aux_lemma =>
           refine adops_cut 3 (fun K' hK27 => ?_)
           try dsimp only [List.drop_succ_cons, List.drop_zero, List.take_succ_cons, List.take_zero]
           simp only [go_sem, hb6, hb10]
           repeat with_reducible refine zN ?_
           refine hK27 _ ?_
           refine adops_nil ?_
           refine athen_n ?_
           refine zV [(2, .int .i64 x0), (3, .int .i64 y), (4, .bp 4 0), (5, .bp 5 0), (14, .sl (.pair (.int .i64) (.pair (.int .i64) (.int .i64))) t.1.1.2), (15, .int .i64 (t.1.1.2.length : Int)), (16, .int .i64 st1), (39, .bool false)] [(4, .box 90 (.int .i64 t.1.1.1 :: (.sl (.pair (.int .i64) (.pair (.int .i64) (.int .i64))) t.1.1.2 :: (cellsX T69 t.1.2 ++ (.int .i64 t.2.1.1 :: (.sl (.pair (.int .i64) (.pair (.int .i64) (.int .i64))) t.2.1.2 :: (cellsX T69 t.2.2))))))), (5, .box 94 (cellsX T94 r0))] gt ?_
           as_aux_lemma =>
            refine AW.cond (b := false) rfl (fun hb28 => by cases hb28) (fun _ => ?_)
            refine zm ?_
            refine athen_n ?_
            refine AW.ops ?_
            obtain ⟨c29, h⟩ := ck_some.1 h
            refine zA [(2, .int .i64 x0), (3, .int .i64 y), (4, .bp 4 0), (5, .bp 5 0), (14, .sl (.pair (.int .i64) (.pair (.int .i64) (.int .i64))) t.1.1.2), (15, .int .i64 (t.1.1.2.length : Int)), (16, .int .i64 (st1 + 1))] [(4, .box 90 (.int .i64 t.1.1.1 :: (.sl (.pair (.int .i64) (.pair (.int .i64) (.int .i64))) t.1.1.2 :: (cellsX T69 t.1.2 ++ (.int .i64 t.2.1.1 :: (.sl (.pair (.int .i64) (.pair (.int .i64) (.int .i64))) t.2.1.2 :: (cellsX T69 t.2.2))))))), (5, .box 94 (cellsX T94 r0))] ?_
            obtain rfl := Option.some.inj h
            exact ⟨_, rfl, zL [] [] []⟩
   ·refine AW.exit ?_
    refine athen_e ?_
    obtain rfl := Option.some.inj h
    rw [← hd3 _ rfl] at ho2
    have h := ho2
    try simp only at h
    refine athen_e ?_
    refine ablock_s ?_
    refine athen_n ?_
    exact AW.weaken (zL [] [] []) (hk_refine_two_follows_k1 () h)

end Go.Proofs.Ytljonmpcehlpaaa
