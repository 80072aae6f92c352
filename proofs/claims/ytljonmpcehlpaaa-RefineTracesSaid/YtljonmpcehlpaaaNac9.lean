/-
  Made by wip/tool/dc.py out of the print of the program: contracts.
-/
import Derived.Test.YtljonmpcehlpaaaRfp
import Derived.Test.YtljonmpcehlpaaaShr
import Derived.Test.YtljonmpcehlpaaaNac3
import Derived.Test.YtljonmpcehlpaaaNac4
namespace Go.Proofs.Ytljonmpcehlpaaa
open Go.RowKit

set_option linter.unusedSimpArgs false
set_option linter.unusedVariables false
set_option linter.constructorNameAsVariable false

set_option maxRecDepth 100000
set_option maxHeartbeats 2000000

theorem hc_refine_frame_traces_1_2F (slf : (List Int) → Int → Int → ((Int × (List (Int × Int × Int))) × (El T69)) → (List (List Int)) → Option ((List (List Int)))) (hc_slf : ∀ (trace : List Int) (at0 : Int) (a3 : Int) (a4 : (Int × (List (Int × Int × Int))) × (El T69)) (a2 : List (List Int)) {r : (List (List Int))}, slf trace at0 a3 a4 a2 = some r → HC Try.prog 111 [(1000, .box 36 [.own 1004]), (1001, .box 3 [.int .i64 a3]), (1002, .box 71 (.int .i64 a4.1.1 :: (.sl (.pair (.int .i64) (.pair (.int .i64) (.int .i64))) a4.1.2 :: (cellsX T69 a4.2)))), (1003, .box 125 [.fn (.func 111) [] [.bp 1000 0, .bp 1001 0, .bp 1002 0, .bp 1003 0]]), (1004, .arr 27 (.sl (.int .i64)) a2)] [.sl (.int .i64) trace, .int .u8 at0, .bp 1000 0, .bp 1001 0, .bp 1002 0, .bp 1003 0] [(1000, .box 36 [.own 2000]), (1001, .box 3 [.int .i64 a3]), (1002, .box 71 (.int .i64 a4.1.1 :: (.sl (.pair (.int .i64) (.pair (.int .i64) (.int .i64))) a4.1.2 :: (cellsX T69 a4.2)))), (1003, .box 125 [.fn (.func 111) [] [.bp 1000 0, .bp 1001 0, .bp 1002 0, .bp 1003 0]]), (2000, .arr 27 (.sl (.int .i64)) r)] (.tup [])) (trace : List Int) (at0 : Int) (a3 : Int) (a4 : (Int × (List (Int × Int × Int))) × (El T69)) (a2 : List (List Int)) {r : (List (List Int))} (h : refine_frame_traces_1_2F slf trace at0 a3 a4 a2 = some r) : HC Try.prog 111 [(1000, .box 36 [.own 1004]), (1001, .box 3 [.int .i64 a3]), (1002, .box 71 (.int .i64 a4.1.1 :: (.sl (.pair (.int .i64) (.pair (.int .i64) (.int .i64))) a4.1.2 :: (cellsX T69 a4.2)))), (1003, .box 125 [.fn (.func 111) [] [.bp 1000 0, .bp 1001 0, .bp 1002 0, .bp 1003 0]]), (1004, .arr 27 (.sl (.int .i64)) a2)] [.sl (.int .i64) trace, .int .u8 at0, .bp 1000 0, .bp 1001 0, .bp 1002 0, .bp 1003 0] [(1000, .box 36 [.own 2000]), (1001, .box 3 [.int .i64 a3]), (1002, .box 71 (.int .i64 a4.1.1 :: (.sl (.pair (.int .i64) (.pair (.int .i64) (.int .i64))) a4.1.2 :: (cellsX T69 a4.2)))), (1003, .box 125 [.fn (.func 111) [] [.bp 1000 0, .bp 1001 0, .bp 1002 0, .bp 1003 0]]), (2000, .arr 27 (.sl (.int .i64)) r)] (.tup []) := by
 unfold refine_frame_traces_1_2F at h
 refine zH Try.func111 [] 34 ?_
 refine zo ?_
 obtain ⟨c1, h⟩ := ck_some.1 h
 refine zB [(0, .sl (.int .i64) trace), (1, .int .u8 at0), (3, .bp 1001 0), (4, .bp 1002 0), (5, .bp 1003 0)] [(13, .arr 27 (.sl (.int .i64)) (a2 ++ [trace])), (1000, .box 36 [.own 13]), (1001, .box 3 [.int .i64 a3]), (1002, .box 71 (.int .i64 a4.1.1 :: (.sl (.pair (.int .i64) (.pair (.int .i64) (.int .i64))) a4.1.2 :: (cellsX T69 a4.2)))), (1003, .box 125 [.fn (.func 111) [] [.bp 1000 0, .bp 1001 0, .bp 1002 0, .bp 1003 0]])] ?_
 refine AW.seq ?_
 refine zo ?_
 refine zB [(0, .sl (.int .i64) trace), (1, .int .u8 at0), (4, .bp 1002 0), (5, .bp 1003 0), (17, .bool (decide ((trace.length : Int) = a3)))] [(13, .arr 27 (.sl (.int .i64)) (a2 ++ [trace])), (1000, .box 36 [.own 13]), (1001, .box 3 [.int .i64 a3]), (1002, .box 71 (.int .i64 a4.1.1 :: (.sl (.pair (.int .i64) (.pair (.int .i64) (.int .i64))) a4.1.2 :: (cellsX T69 a4.2)))), (1003, .box 125 [.fn (.func 111) [] [.bp 1000 0, .bp 1001 0, .bp 1002 0, .bp 1003 0]])] ?_
 refine zQ h (fun hb2 h => ?_) (fun hb2 h => ?_)
 ·refine zr ?_
  obtain rfl := Option.some.inj h
  exact zR [] [] [(2000, 13)]
 ·refine zk ?_
  refine zo ?_
  refine zB [(0, .sl (.int .i64) trace), (1, .int .u8 at0), (4, .bp 1002 0), (5, .bp 1003 0), (8, .int .i64 1)] [(13, .arr 27 (.sl (.int .i64)) (a2 ++ [trace])), (1000, .box 36 [.own 13]), (1001, .box 3 [.int .i64 a3]), (1002, .box 71 (.int .i64 a4.1.1 :: (.sl (.pair (.int .i64) (.pair (.int .i64) (.int .i64))) a4.1.2 :: (cellsX T69 a4.2)))), (1003, .box 125 [.fn (.func 111) [] [.bp 1000 0, .bp 1001 0, .bp 1002 0, .bp 1003 0]])] ?_
  refine AW.block ?_
  obtain ⟨rv7, hw3, ho4⟩ := Option.bind_eq_some_iff.1 h
  refine AW.loopO (refine_frame_traces_1_2_b1 slf trace at0 a3 a4) (fun st1 => ⟨fr [(0, .sl (.int .i64) trace), (1, .int .u8 at0), (4, .bp 1002 0), (5, .bp 1003 0), (8, .int .i64 st1.2)], hpGet [(13, .arr 27 (.sl (.int .i64)) st1.1), (1000, .box 36 [.own 13]), (1001, .box 3 [.int .i64 a3]), (1002, .box 71 (.int .i64 a4.1.1 :: (.sl (.pair (.int .i64) (.pair (.int .i64) (.int .i64))) a4.1.2 :: (cellsX T69 a4.2)))), (1003, .box 125 [.fn (.func 111) [] [.bp 1000 0, .bp 1001 0, .bp 1002 0, .bp 1003 0]])], gt⟩) ((a2 ++ [trace]), 1) hw3 (zL [] [] []) ?_
  as_aux_lemma =>
   intro st1 x6 h hd5
   unfold refine_frame_traces_1_2_b1 at h
   refine AW.seq ?_
   refine zo ?_
   refine zB [(0, .sl (.int .i64) trace), (1, .int .u8 at0), (4, .bp 1002 0), (5, .bp 1003 0), (8, .int .i64 st1.2), (19, .bool (decide (st1.2 ≤ 3)))] [(13, .arr 27 (.sl (.int .i64)) st1.1), (1000, .box 36 [.own 13]), (1001, .box 3 [.int .i64 a3]), (1002, .box 71 (.int .i64 a4.1.1 :: (.sl (.pair (.int .i64) (.pair (.int .i64) (.int .i64))) a4.1.2 :: (cellsX T69 a4.2)))), (1003, .box 125 [.fn (.func 111) [] [.bp 1000 0, .bp 1001 0, .bp 1002 0, .bp 1003 0]])] ?_
   refine zQ h (fun hb8 h => ?_) (fun hb8 h => ?_)
   ·refine zk ?_
    refine AW.seq ?_
    refine AW.block ?_
    refine zo ?_
    refine zS 3 [(0, .sl (.int .i64) trace), (1, .int .u8 at0), (4, .bp 1002 0), (5, .bp 1003 0), (8, .int .i64 st1.2), (22, .agg (.int .i64 a4.1.1 :: (.sl (.pair (.int .i64) (.pair (.int .i64) (.int .i64))) a4.1.2 :: (cellsX T69 a4.2)))), (23, .int .u8 at0), (24, .int .i64 st1.2)] [(13, .arr 27 (.sl (.int .i64)) st1.1), (1000, .box 36 [.own 13]), (1001, .box 3 [.int .i64 a3]), (1002, .box 71 (.int .i64 a4.1.1 :: (.sl (.pair (.int .i64) (.pair (.int .i64) (.int .i64))) a4.1.2 :: (cellsX T69 a4.2)))), (1003, .box 125 [.fn (.func 111) [] [.bp 1000 0, .bp 1001 0, .bp 1002 0, .bp 1003 0]])] ?_
    obtain ⟨v0, hv9, h⟩ := Option.bind_eq_some_iff.1 h
    refine zC [] [] (hc_refine_frame_after a4 at0 st1.2 hv9) [(0, .sl (.int .i64) trace), (1, .int .u8 at0), (4, .bp 1002 0), (5, .bp 1003 0), (8, .int .i64 st1.2), (25, .int .u8 v0)] [(13, .arr 27 (.sl (.int .i64)) st1.1), (1000, .box 36 [.own 13]), (1001, .box 3 [.int .i64 a3]), (1002, .box 71 (.int .i64 a4.1.1 :: (.sl (.pair (.int .i64) (.pair (.int .i64) (.int .i64))) a4.1.2 :: (cellsX T69 a4.2)))), (1003, .box 125 [.fn (.func 111) [] [.bp 1000 0, .bp 1001 0, .bp 1002 0, .bp 1003 0]])] ?_
    refine zB [(0, .sl (.int .i64) trace), (1, .int .u8 at0), (4, .bp 1002 0), (5, .bp 1003 0), (8, .int .i64 st1.2), (9, .int .u8 v0)] [(13, .arr 27 (.sl (.int .i64)) st1.1), (1000, .box 36 [.own 13]), (1001, .box 3 [.int .i64 a3]), (1002, .box 71 (.int .i64 a4.1.1 :: (.sl (.pair (.int .i64) (.pair (.int .i64) (.int .i64))) a4.1.2 :: (cellsX T69 a4.2)))), (1003, .box 125 [.fn (.func 111) [] [.bp 1000 0, .bp 1001 0, .bp 1002 0, .bp 1003 0]])] ?_
    refine zo ?_
    refine zB [(0, .sl (.int .i64) trace), (1, .int .u8 at0), (4, .bp 1002 0), (5, .bp 1003 0), (8, .int .i64 st1.2), (9, .int .u8 v0), (27, .bool (!(decide (v0 = 0))))] [(13, .arr 27 (.sl (.int .i64)) st1.1), (1000, .box 36 [.own 13]), (1001, .box 3 [.int .i64 a3]), (1002, .box 71 (.int .i64 a4.1.1 :: (.sl (.pair (.int .i64) (.pair (.int .i64) (.int .i64))) a4.1.2 :: (cellsX T69 a4.2)))), (1003, .box 125 [.fn (.func 111) [] [.bp 1000 0, .bp 1001 0, .bp 1002 0, .bp 1003 0]])] ?_
    refine zQ h (fun hb10 h => ?_) (fun hb10 h => ?_)
    ·refine AW.draw tab_ok mixed_ok [(3, [41000]), (5, [13, 1000, 1001, 1002, 1003, 41000, 43000])] [(0, [1000, 1001, 1002, 1003, 1000001000, 1000001001, 1000001002]), (4, [])] (by decide) (by kernel_rfl) ?_
     as_aux_lemma =>
      refine adops_cut 3 (fun K' hK11 => ?_)
      try dsimp only [List.drop_succ_cons, List.drop_zero, List.take_succ_cons, List.take_zero]
      simp only [go_sem, hb2, hb8, hb10]
      repeat with_reducible refine zN ?_
      refine hK11 _ ?_
      as_aux_lemma =>
       obtain ⟨v0_2, hv12, h⟩ := Option.bind_eq_some_iff.1 h
       refine adops.call (by first | trivial | rfl) rfl rfl rfl (fun _ h => h) [] [] (hc_refine_longer trace st1.2 hv12) rfl (by (simp only [go_sem, hb2, hb8, hb10]) <;> (with_reducible and_intros) <;> first | assumption | rfl | omega | (unfold maxLen; omega)) (by (simp only [go_sem, hb2, hb8, hb10]) <;> (with_reducible and_intros) <;> first | assumption | rfl | omega | (unfold maxLen; omega)) rfl ?_
       refine adops_cut 1 (fun K' hK13 => ?_)
       try dsimp only [List.drop_succ_cons, List.drop_zero, List.take_succ_cons, List.take_zero]
       simp only [go_sem, hb2, hb8, hb10]
       repeat with_reducible refine zN ?_
       refine hK13 _ ?_
       as_aux_lemma =>
        obtain ⟨v0_3, hv14, h⟩ := Option.bind_eq_some_iff.1 h
        refine adops.call (by first | trivial | rfl) rfl rfl rfl (fun _ h => h) [41000] [(1000, 1000), (1001, 1001), (1002, 1002), (1003, 1003), (1004, 13)] (hc_slf v0_2 v0 a3 a4 st1.1 hv14) rfl (by (simp only [go_sem, hb2, hb8, hb10]) <;> (with_reducible and_intros) <;> first | assumption | rfl | omega | (unfold maxLen; omega)) (by (simp only [go_sem, hb2, hb8, hb10]) <;> (with_reducible and_intros) <;> first | assumption | rfl | omega | (unfold maxLen; omega)) rfl ?_
        refine adops_cut 0 (fun K' hK15 => ?_)
        try dsimp only [List.drop_succ_cons, List.drop_zero, List.take_succ_cons, List.take_zero]
        simp only [go_sem, hb2, hb8, hb10]
        repeat with_reducible refine zN ?_
        refine hK15 _ ?_
        refine adops_nil ?_
        refine ablock_n ?_
        refine athen_n ?_
        refine zV [(0, .sl (.int .i64) trace), (1, .int .u8 at0), (4, .bp 1002 0), (5, .bp 1003 0), (8, .int .i64 st1.2)] [(1000, .box 36 [.own 43000]), (1001, .box 3 [.int .i64 a3]), (1002, .box 71 (.int .i64 a4.1.1 :: (.sl (.pair (.int .i64) (.pair (.int .i64) (.int .i64))) a4.1.2 :: (cellsX T69 a4.2)))), (1003, .box 125 [.fn (.func 111) [] [.bp 1000 0, .bp 1001 0, .bp 1002 0, .bp 1003 0]]), (43000, .arr 27 (.sl (.int .i64)) v0_3)] gt ?_
        as_aux_lemma =>
         refine AW.ops ?_
         obtain ⟨c16, h⟩ := ck_some.1 h
         refine zA [(0, .sl (.int .i64) trace), (1, .int .u8 at0), (4, .bp 1002 0), (5, .bp 1003 0), (8, .int .i64 (st1.2 + 1))] [(1000, .box 36 [.own 43000]), (1001, .box 3 [.int .i64 a3]), (1002, .box 71 (.int .i64 a4.1.1 :: (.sl (.pair (.int .i64) (.pair (.int .i64) (.int .i64))) a4.1.2 :: (cellsX T69 a4.2)))), (1003, .box 125 [.fn (.func 111) [] [.bp 1000 0, .bp 1001 0, .bp 1002 0, .bp 1003 0]]), (43000, .arr 27 (.sl (.int .i64)) v0_3)] ?_
         obtain rfl := Option.some.inj h
         exact ⟨_, rfl, zL [] [] [(13, 43000)]⟩
    ·refine zm ?_
     refine athen_n ?_
     refine AW.ops ?_
     obtain ⟨c17, h⟩ := ck_some.1 h
     refine zA [(0, .sl (.int .i64) trace), (1, .int .u8 at0), (4, .bp 1002 0), (5, .bp 1003 0), (8, .int .i64 (st1.2 + 1))] [(13, .arr 27 (.sl (.int .i64)) st1.1), (1000, .box 36 [.own 13]), (1001, .box 3 [.int .i64 a3]), (1002, .box 71 (.int .i64 a4.1.1 :: (.sl (.pair (.int .i64) (.pair (.int .i64) (.int .i64))) a4.1.2 :: (cellsX T69 a4.2)))), (1003, .box 125 [.fn (.func 111) [] [.bp 1000 0, .bp 1001 0, .bp 1002 0, .bp 1003 0]])] ?_
     obtain rfl := Option.some.inj h
     exact ⟨_, rfl, zL [] [] []⟩
   ·refine AW.exit ?_
    refine athen_e ?_
    obtain rfl := Option.some.inj h
    rw [← hd5 _ rfl] at ho4
    have h := ho4
    refine athen_e ?_
    refine ablock_s ?_
    obtain rfl := Option.some.inj h
    exact zR [] [] [(2000, 13)]

theorem hc_refine_frame_traces_1_2 : ∀ (n : Nat) (trace : List Int) (at0 : Int) (a3 : Int) (a4 : (Int × (List (Int × Int × Int))) × (El T69)) (a2 : List (List Int)) {r : (List (List Int))}, refine_frame_traces_1_2 n trace at0 a3 a4 a2 = some r → HC Try.prog 111 [(1000, .box 36 [.own 1004]), (1001, .box 3 [.int .i64 a3]), (1002, .box 71 (.int .i64 a4.1.1 :: (.sl (.pair (.int .i64) (.pair (.int .i64) (.int .i64))) a4.1.2 :: (cellsX T69 a4.2)))), (1003, .box 125 [.fn (.func 111) [] [.bp 1000 0, .bp 1001 0, .bp 1002 0, .bp 1003 0]]), (1004, .arr 27 (.sl (.int .i64)) a2)] [.sl (.int .i64) trace, .int .u8 at0, .bp 1000 0, .bp 1001 0, .bp 1002 0, .bp 1003 0] [(1000, .box 36 [.own 2000]), (1001, .box 3 [.int .i64 a3]), (1002, .box 71 (.int .i64 a4.1.1 :: (.sl (.pair (.int .i64) (.pair (.int .i64) (.int .i64))) a4.1.2 :: (cellsX T69 a4.2)))), (1003, .box 125 [.fn (.func 111) [] [.bp 1000 0, .bp 1001 0, .bp 1002 0, .bp 1003 0]]), (2000, .arr 27 (.sl (.int .i64)) r)] (.tup []) := by
 intro n
 induction n with
 | zero => intro trace at0 a3 a4 a2 r h; cases h
 | succ n ih => intro trace at0 a3 a4 a2 r h; exact hc_refine_frame_traces_1_2F (refine_frame_traces_1_2 n) ih trace at0 a3 a4 a2 h

theorem hc_refine_frame_traces_1 (trace : List Int) (at0 : Int) (a3 : Int) (a4 : (Int × (List (Int × Int × Int))) × (El T69)) {r : (List (List Int))} (h : refine_frame_traces_1 trace at0 a3 a4 = some r) : HC Try.prog 111 [(1000, .box 36 [.cv (.slice none 0 0)]), (1001, .box 3 [.int .i64 a3]), (1002, .box 71 (.int .i64 a4.1.1 :: (.sl (.pair (.int .i64) (.pair (.int .i64) (.int .i64))) a4.1.2 :: (cellsX T69 a4.2)))), (1003, .box 125 [.fn (.func 111) [] [.bp 1000 0, .bp 1001 0, .bp 1002 0, .bp 1003 0]])] [.sl (.int .i64) trace, .int .u8 at0, .bp 1000 0, .bp 1001 0, .bp 1002 0, .bp 1003 0] [(1000, .box 36 [.own 2000]), (1001, .box 3 [.int .i64 a3]), (1002, .box 71 (.int .i64 a4.1.1 :: (.sl (.pair (.int .i64) (.pair (.int .i64) (.int .i64))) a4.1.2 :: (cellsX T69 a4.2)))), (1003, .box 125 [.fn (.func 111) [] [.bp 1000 0, .bp 1001 0, .bp 1002 0, .bp 1003 0]]), (2000, .arr 27 (.sl (.int .i64)) r)] (.tup []) := by
 unfold refine_frame_traces_1 at h
 refine zH Try.func111 [] 34 ?_
 refine zo ?_
 refine zB [(0, .sl (.int .i64) trace), (1, .int .u8 at0), (3, .bp 1001 0), (4, .bp 1002 0), (5, .bp 1003 0)] [(13, .arr 27 (.sl (.int .i64)) [trace]), (1000, .box 36 [.own 13]), (1001, .box 3 [.int .i64 a3]), (1002, .box 71 (.int .i64 a4.1.1 :: (.sl (.pair (.int .i64) (.pair (.int .i64) (.int .i64))) a4.1.2 :: (cellsX T69 a4.2)))), (1003, .box 125 [.fn (.func 111) [] [.bp 1000 0, .bp 1001 0, .bp 1002 0, .bp 1003 0]])] ?_
 refine AW.seq ?_
 refine zo ?_
 refine zB [(0, .sl (.int .i64) trace), (1, .int .u8 at0), (4, .bp 1002 0), (5, .bp 1003 0), (17, .bool (decide ((trace.length : Int) = a3)))] [(13, .arr 27 (.sl (.int .i64)) [trace]), (1000, .box 36 [.own 13]), (1001, .box 3 [.int .i64 a3]), (1002, .box 71 (.int .i64 a4.1.1 :: (.sl (.pair (.int .i64) (.pair (.int .i64) (.int .i64))) a4.1.2 :: (cellsX T69 a4.2)))), (1003, .box 125 [.fn (.func 111) [] [.bp 1000 0, .bp 1001 0, .bp 1002 0, .bp 1003 0]])] ?_
 refine zQ h (fun hb1 h => ?_) (fun hb1 h => ?_)
 ·refine zr ?_
  obtain rfl := Option.some.inj h
  exact zR [] [] [(2000, 13)]
 ·refine zk ?_
  refine zo ?_
  refine zB [(0, .sl (.int .i64) trace), (1, .int .u8 at0), (4, .bp 1002 0), (5, .bp 1003 0), (8, .int .i64 1)] [(13, .arr 27 (.sl (.int .i64)) [trace]), (1000, .box 36 [.own 13]), (1001, .box 3 [.int .i64 a3]), (1002, .box 71 (.int .i64 a4.1.1 :: (.sl (.pair (.int .i64) (.pair (.int .i64) (.int .i64))) a4.1.2 :: (cellsX T69 a4.2)))), (1003, .box 125 [.fn (.func 111) [] [.bp 1000 0, .bp 1001 0, .bp 1002 0, .bp 1003 0]])] ?_
  refine AW.block ?_
  obtain ⟨rv6, hw2, ho3⟩ := Option.bind_eq_some_iff.1 h
  refine AW.loopO (refine_frame_traces_1_b1 trace at0 a3 a4) (fun st1 => ⟨fr [(0, .sl (.int .i64) trace), (1, .int .u8 at0), (4, .bp 1002 0), (5, .bp 1003 0), (8, .int .i64 st1.2)], hpGet [(13, .arr 27 (.sl (.int .i64)) st1.1), (1000, .box 36 [.own 13]), (1001, .box 3 [.int .i64 a3]), (1002, .box 71 (.int .i64 a4.1.1 :: (.sl (.pair (.int .i64) (.pair (.int .i64) (.int .i64))) a4.1.2 :: (cellsX T69 a4.2)))), (1003, .box 125 [.fn (.func 111) [] [.bp 1000 0, .bp 1001 0, .bp 1002 0, .bp 1003 0]])], gt⟩) ([trace], 1) hw2 (zL [] [] []) ?_
  as_aux_lemma =>
   intro st1 x5 h hd4
   unfold refine_frame_traces_1_b1 at h
   refine AW.seq ?_
   refine zo ?_
   refine zB [(0, .sl (.int .i64) trace), (1, .int .u8 at0), (4, .bp 1002 0), (5, .bp 1003 0), (8, .int .i64 st1.2), (19, .bool (decide (st1.2 ≤ 3)))] [(13, .arr 27 (.sl (.int .i64)) st1.1), (1000, .box 36 [.own 13]), (1001, .box 3 [.int .i64 a3]), (1002, .box 71 (.int .i64 a4.1.1 :: (.sl (.pair (.int .i64) (.pair (.int .i64) (.int .i64))) a4.1.2 :: (cellsX T69 a4.2)))), (1003, .box 125 [.fn (.func 111) [] [.bp 1000 0, .bp 1001 0, .bp 1002 0, .bp 1003 0]])] ?_
   refine zQ h (fun hb7 h => ?_) (fun hb7 h => ?_)
   ·refine zk ?_
    refine AW.seq ?_
    refine AW.block ?_
    refine zo ?_
    refine zS 3 [(0, .sl (.int .i64) trace), (1, .int .u8 at0), (4, .bp 1002 0), (5, .bp 1003 0), (8, .int .i64 st1.2), (22, .agg (.int .i64 a4.1.1 :: (.sl (.pair (.int .i64) (.pair (.int .i64) (.int .i64))) a4.1.2 :: (cellsX T69 a4.2)))), (23, .int .u8 at0), (24, .int .i64 st1.2)] [(13, .arr 27 (.sl (.int .i64)) st1.1), (1000, .box 36 [.own 13]), (1001, .box 3 [.int .i64 a3]), (1002, .box 71 (.int .i64 a4.1.1 :: (.sl (.pair (.int .i64) (.pair (.int .i64) (.int .i64))) a4.1.2 :: (cellsX T69 a4.2)))), (1003, .box 125 [.fn (.func 111) [] [.bp 1000 0, .bp 1001 0, .bp 1002 0, .bp 1003 0]])] ?_
    obtain ⟨v0, hv8, h⟩ := Option.bind_eq_some_iff.1 h
    refine zC [] [] (hc_refine_frame_after a4 at0 st1.2 hv8) [(0, .sl (.int .i64) trace), (1, .int .u8 at0), (4, .bp 1002 0), (5, .bp 1003 0), (8, .int .i64 st1.2), (25, .int .u8 v0)] [(13, .arr 27 (.sl (.int .i64)) st1.1), (1000, .box 36 [.own 13]), (1001, .box 3 [.int .i64 a3]), (1002, .box 71 (.int .i64 a4.1.1 :: (.sl (.pair (.int .i64) (.pair (.int .i64) (.int .i64))) a4.1.2 :: (cellsX T69 a4.2)))), (1003, .box 125 [.fn (.func 111) [] [.bp 1000 0, .bp 1001 0, .bp 1002 0, .bp 1003 0]])] ?_
    refine zB [(0, .sl (.int .i64) trace), (1, .int .u8 at0), (4, .bp 1002 0), (5, .bp 1003 0), (8, .int .i64 st1.2), (9, .int .u8 v0)] [(13, .arr 27 (.sl (.int .i64)) st1.1), (1000, .box 36 [.own 13]), (1001, .box 3 [.int .i64 a3]), (1002, .box 71 (.int .i64 a4.1.1 :: (.sl (.pair (.int .i64) (.pair (.int .i64) (.int .i64))) a4.1.2 :: (cellsX T69 a4.2)))), (1003, .box 125 [.fn (.func 111) [] [.bp 1000 0, .bp 1001 0, .bp 1002 0, .bp 1003 0]])] ?_
    refine zo ?_
    refine zB [(0, .sl (.int .i64) trace), (1, .int .u8 at0), (4, .bp 1002 0), (5, .bp 1003 0), (8, .int .i64 st1.2), (9, .int .u8 v0), (27, .bool (!(decide (v0 = 0))))] [(13, .arr 27 (.sl (.int .i64)) st1.1), (1000, .box 36 [.own 13]), (1001, .box 3 [.int .i64 a3]), (1002, .box 71 (.int .i64 a4.1.1 :: (.sl (.pair (.int .i64) (.pair (.int .i64) (.int .i64))) a4.1.2 :: (cellsX T69 a4.2)))), (1003, .box 125 [.fn (.func 111) [] [.bp 1000 0, .bp 1001 0, .bp 1002 0, .bp 1003 0]])] ?_
    refine zQ h (fun hb9 h => ?_) (fun hb9 h => ?_)
    ·refine AW.draw tab_ok mixed_ok [(3, [41000]), (5, [13, 1000, 1001, 1002, 1003, 41000, 43000])] [(0, [1000, 1001, 1002, 1003, 1000001000, 1000001001, 1000001002]), (4, [])] (by decide) (by kernel_rfl) ?_
     as_aux_lemma =>
      refine adops_cut 3 (fun K' hK10 => ?_)
      try dsimp only [List.drop_succ_cons, List.drop_zero, List.take_succ_cons, List.take_zero]
      simp only [go_sem, hb1, hb7, hb9]
      repeat with_reducible refine zN ?_
      refine hK10 _ ?_
      as_aux_lemma =>
       obtain ⟨v0_2, hv11, h⟩ := Option.bind_eq_some_iff.1 h
       refine adops.call (by first | trivial | rfl) rfl rfl rfl (fun _ h => h) [] [] (hc_refine_longer trace st1.2 hv11) rfl (by (simp only [go_sem, hb1, hb7, hb9]) <;> (with_reducible and_intros) <;> first | assumption | rfl | omega | (unfold maxLen; omega)) (by (simp only [go_sem, hb1, hb7, hb9]) <;> (with_reducible and_intros) <;> first | assumption | rfl | omega | (unfold maxLen; omega)) rfl ?_
       refine adops_cut 1 (fun K' hK12 => ?_)
       try dsimp only [List.drop_succ_cons, List.drop_zero, List.take_succ_cons, List.take_zero]
       simp only [go_sem, hb1, hb7, hb9]
       repeat with_reducible refine zN ?_
       refine hK12 _ ?_
       as_aux_lemma =>
        obtain ⟨v0_3, hv13, h⟩ := Option.bind_eq_some_iff.1 h
        refine adops.call (by first | trivial | rfl) rfl rfl rfl (fun _ h => h) [41000] [(1000, 1000), (1001, 1001), (1002, 1002), (1003, 1003), (1004, 13)] (hc_refine_frame_traces_1_2 fuel v0_2 v0 a3 a4 st1.1 hv13) rfl (by (simp only [go_sem, hb1, hb7, hb9]) <;> (with_reducible and_intros) <;> first | assumption | rfl | omega | (unfold maxLen; omega)) (by (simp only [go_sem, hb1, hb7, hb9]) <;> (with_reducible and_intros) <;> first | assumption | rfl | omega | (unfold maxLen; omega)) rfl ?_
        refine adops_cut 0 (fun K' hK14 => ?_)
        try dsimp only [List.drop_succ_cons, List.drop_zero, List.take_succ_cons, List.take_zero]
        simp only [go_sem, hb1, hb7, hb9]
        repeat with_reducible refine zN ?_
        refine hK14 _ ?_
        refine adops_nil ?_
        refine ablock_n ?_
        refine athen_n ?_
        refine zV [(0, .sl (.int .i64) trace), (1, .int .u8 at0), (4, .bp 1002 0), (5, .bp 1003 0), (8, .int .i64 st1.2)] [(1000, .box 36 [.own 43000]), (1001, .box 3 [.int .i64 a3]), (1002, .box 71 (.int .i64 a4.1.1 :: (.sl (.pair (.int .i64) (.pair (.int .i64) (.int .i64))) a4.1.2 :: (cellsX T69 a4.2)))), (1003, .box 125 [.fn (.func 111) [] [.bp 1000 0, .bp 1001 0, .bp 1002 0, .bp 1003 0]]), (43000, .arr 27 (.sl (.int .i64)) v0_3)] gt ?_
        as_aux_lemma =>
         refine AW.ops ?_
         obtain ⟨c15, h⟩ := ck_some.1 h
         refine zA [(0, .sl (.int .i64) trace), (1, .int .u8 at0), (4, .bp 1002 0), (5, .bp 1003 0), (8, .int .i64 (st1.2 + 1))] [(1000, .box 36 [.own 43000]), (1001, .box 3 [.int .i64 a3]), (1002, .box 71 (.int .i64 a4.1.1 :: (.sl (.pair (.int .i64) (.pair (.int .i64) (.int .i64))) a4.1.2 :: (cellsX T69 a4.2)))), (1003, .box 125 [.fn (.func 111) [] [.bp 1000 0, .bp 1001 0, .bp 1002 0, .bp 1003 0]]), (43000, .arr 27 (.sl (.int .i64)) v0_3)] ?_
         obtain rfl := Option.some.inj h
         exact ⟨_, rfl, zL [] [] [(13, 43000)]⟩
    ·refine zm ?_
     refine athen_n ?_
     refine AW.ops ?_
     obtain ⟨c16, h⟩ := ck_some.1 h
     refine zA [(0, .sl (.int .i64) trace), (1, .int .u8 at0), (4, .bp 1002 0), (5, .bp 1003 0), (8, .int .i64 (st1.2 + 1))] [(13, .arr 27 (.sl (.int .i64)) st1.1), (1000, .box 36 [.own 13]), (1001, .box 3 [.int .i64 a3]), (1002, .box 71 (.int .i64 a4.1.1 :: (.sl (.pair (.int .i64) (.pair (.int .i64) (.int .i64))) a4.1.2 :: (cellsX T69 a4.2)))), (1003, .box 125 [.fn (.func 111) [] [.bp 1000 0, .bp 1001 0, .bp 1002 0, .bp 1003 0]])] ?_
     obtain rfl := Option.some.inj h
     exact ⟨_, rfl, zL [] [] []⟩
   ·refine AW.exit ?_
    refine athen_e ?_
    obtain rfl := Option.some.inj h
    rw [← hd4 _ rfl] at ho3
    have h := ho3
    refine athen_e ?_
    refine ablock_s ?_
    obtain rfl := Option.some.inj h
    exact zR [] [] [(2000, 13)]

theorem hc_refine_frame_traces (f : (Int × (List (Int × Int × Int))) × (El T69)) (most : Int) {r : (List (List Int))} (h : refine_frame_traces f most = some r) : HC Try.prog 78 [] [.agg (.int .i64 f.1.1 :: (.sl (.pair (.int .i64) (.pair (.int .i64) (.int .i64))) f.1.2 :: (cellsX T69 f.2))), .int .i64 most] [(2000, .arr 27 (.sl (.int .i64)) r)] (.own 2000) := by
 unfold refine_frame_traces at h
 refine zH Try.func78 [.tmp 4] 13 ?_
 refine zo ?_
 refine zB [(2, .bp 2 0), (3, .bp 3 0)] [(2, .box 71 (.int .i64 f.1.1 :: (.sl (.pair (.int .i64) (.pair (.int .i64) (.int .i64))) f.1.2 :: (cellsX T69 f.2)))), (3, .box 3 [.int .i64 most])] ?_
 refine zo ?_
 refine zB [(2, .bp 2 0), (3, .bp 3 0), (5, .bp 5 0)] [(2, .box 71 (.int .i64 f.1.1 :: (.sl (.pair (.int .i64) (.pair (.int .i64) (.int .i64))) f.1.2 :: (cellsX T69 f.2)))), (3, .box 3 [.int .i64 most]), (5, .box 36 [.cv (.slice none 0 0)])] ?_
 refine zo ?_
 refine zB [(2, .bp 2 0), (3, .bp 3 0), (5, .bp 5 0), (6, .bp 6 0)] [(2, .box 71 (.int .i64 f.1.1 :: (.sl (.pair (.int .i64) (.pair (.int .i64) (.int .i64))) f.1.2 :: (cellsX T69 f.2)))), (3, .box 3 [.int .i64 most]), (5, .box 36 [.cv (.slice none 0 0)]), (6, .box 125 [.cv (.nilFunc)])] ?_
 refine zo ?_
 refine zB [(2, .bp 2 0), (5, .bp 5 0), (6, .bp 6 0)] [(2, .box 71 (.int .i64 f.1.1 :: (.sl (.pair (.int .i64) (.pair (.int .i64) (.int .i64))) f.1.2 :: (cellsX T69 f.2)))), (3, .box 3 [.int .i64 most]), (5, .box 36 [.cv (.slice none 0 0)]), (6, .box 125 [.fn (.func 111) [] [.bp 5 0, .bp 3 0, .bp 2 0, .bp 6 0]])] ?_
 refine AW.seq ?_
 refine AW.draw tab_ok mixed_ok [(3, [2, 3, 5, 6, 21000])] [] (by decide) (by kernel_rfl) ?_
 as_aux_lemma =>
  refine adops_cut 2 (fun K' hK1 => ?_)
  try dsimp only [List.drop_succ_cons, List.drop_zero, List.take_succ_cons, List.take_zero]
  simp only [go_sem]
  repeat with_reducible refine zN ?_
  refine hK1 _ ?_
  as_aux_lemma =>
   obtain ⟨v0, hv2, h⟩ := Option.bind_eq_some_iff.1 h
   refine adops.call (by first | trivial | rfl) rfl rfl rfl (fun _ h => h) [] [] (hc_refine_frame_begin f hv2) rfl (by (simp only [go_sem]) <;> (with_reducible and_intros) <;> first | assumption | rfl | omega | (unfold maxLen; omega)) (by (simp only [go_sem]) <;> (with_reducible and_intros) <;> first | assumption | rfl | omega | (unfold maxLen; omega)) rfl ?_
   obtain ⟨v0_2, hv3, h⟩ := Option.bind_eq_some_iff.1 h
   refine adops.call (by first | trivial | rfl) rfl rfl rfl (fun _ h => h) [] [(1000, 5), (1001, 3), (1002, 2), (1003, 6)] (hc_refine_frame_traces_1 [] (intAt T69 f.2 0) most f hv3) rfl (by (simp only [go_sem]) <;> (with_reducible and_intros) <;> first | assumption | rfl | omega | (unfold maxLen; omega)) (by (simp only [go_sem]) <;> (with_reducible and_intros) <;> first | assumption | rfl | omega | (unfold maxLen; omega)) rfl ?_
   refine adops_cut 0 (fun K' hK4 => ?_)
   try dsimp only [List.drop_succ_cons, List.drop_zero, List.take_succ_cons, List.take_zero]
   simp only [go_sem]
   repeat with_reducible refine zN ?_
   refine hK4 _ ?_
   refine adops_nil ?_
   refine athen_n ?_
   refine zV [(5, .bp 5 0)] [(5, .box 36 [.own 21000]), (21000, .arr 27 (.sl (.int .i64)) v0_2)] gt ?_
   as_aux_lemma =>
    refine zo ?_
    refine zB [(4, .own 21000)] [(21000, .arr 27 (.sl (.int .i64)) v0_2)] ?_
    refine AW.ret ?_
    obtain rfl := Option.some.inj h
    exact zR [] [] [(2000, 21000)]

theorem hc_refine_Traces (s : Int × (List (Int × Int × Int))) (most : Int) {r : (List (List Int)) × Int} (h : refine_Traces s most = some r) : HC Try.prog 29 [] [.agg [.int .i64 s.1, .sl (.pair (.int .i64) (.pair (.int .i64) (.int .i64))) s.2], .int .i64 most] [(2000, .arr 27 (.sl (.int .i64)) r.1)] (.tup [.own 2000, .int .i64 r.2]) := by
 unfold refine_Traces at h
 refine zH Try.func29 [.tmp 4, .tmp 5] 25 ?_
 refine zo ?_
 refine zB [(1, .int .i64 most), (2, .bp 2 0)] [(2, .box 24 [.int .i64 s.1, .sl (.pair (.int .i64) (.pair (.int .i64) (.int .i64))) s.2])] ?_
 refine zo ?_
 refine zS 1 [(1, .int .i64 most), (9, .agg [.int .i64 s.1, .sl (.pair (.int .i64) (.pair (.int .i64) (.int .i64))) s.2])] [] ?_
 obtain ⟨v0, hv1, h⟩ := Option.bind_eq_some_iff.1 h
 refine zC [] [] (hc_refine_frameOf s hv1) [(1, .int .i64 most), (10, .tup [.agg (.int .i64 v0.1 :: (.sl (.pair (.int .i64) (.pair (.int .i64) (.int .i64))) v0.2.1 :: (cellsX T69 v0.2.2.1))), .int .i64 v0.2.2.2])] [] ?_
 refine zS 5 [(1, .int .i64 most), (6, .bp 6 0), (12, .int .i64 v0.2.2.2)] [(6, .box 71 (.int .i64 v0.1 :: (.sl (.pair (.int .i64) (.pair (.int .i64) (.int .i64))) v0.2.1 :: (cellsX T69 v0.2.2.1))))] ?_
 refine zB [(1, .int .i64 most), (6, .bp 6 0), (7, .int .i64 v0.2.2.2)] [(6, .box 71 (.int .i64 v0.1 :: (.sl (.pair (.int .i64) (.pair (.int .i64) (.int .i64))) v0.2.1 :: (cellsX T69 v0.2.2.1))))] ?_
 refine AW.seq ?_
 refine zo ?_
 refine zB [(1, .int .i64 most), (6, .bp 6 0), (7, .int .i64 v0.2.2.2), (14, .bool (!(decide (v0.2.2.2 = 0))))] [(6, .box 71 (.int .i64 v0.1 :: (.sl (.pair (.int .i64) (.pair (.int .i64) (.int .i64))) v0.2.1 :: (cellsX T69 v0.2.2.1))))] ?_
 refine zQ h (fun hb2 h => ?_) (fun hb2 h => ?_)
 ·refine zo ?_
  refine zB [(4, .cv (.slice none 0 0)), (5, .int .i64 v0.2.2.2)] [] ?_
  refine zr ?_
  obtain rfl := Option.some.inj h
  exact zR [] [2000] []
 ·refine zk ?_
  refine AW.seq ?_
  refine zo ?_
  refine zS 3 [(1, .int .i64 most), (6, .bp 6 0), (18, .bool (decide (most < 0)))] [(6, .box 71 (.int .i64 v0.1 :: (.sl (.pair (.int .i64) (.pair (.int .i64) (.int .i64))) v0.2.1 :: (cellsX T69 v0.2.2.1))))] ?_
  rcases zI h with ⟨hb3, h⟩ | ⟨hb3, h⟩
  ·refine zB [(1, .int .i64 most), (6, .bp 6 0), (21, .bool true)] [(6, .box 71 (.int .i64 v0.1 :: (.sl (.pair (.int .i64) (.pair (.int .i64) (.int .i64))) v0.2.1 :: (cellsX T69 v0.2.2.1))))] ?_
   refine AW.cond (b := true) rfl (fun _ => ?_) (fun hb4 => by cases hb4)
   refine zo ?_
   refine zB [(4, .cv (.slice none 0 0)), (5, .int .i64 2)] [] ?_
   refine zr ?_
   obtain rfl := Option.some.inj h
   exact zR [] [2000] []
  ·refine zB [(1, .int .i64 most), (6, .bp 6 0), (21, .bool (decide (5 < most)))] [(6, .box 71 (.int .i64 v0.1 :: (.sl (.pair (.int .i64) (.pair (.int .i64) (.int .i64))) v0.2.1 :: (cellsX T69 v0.2.2.1))))] ?_
   refine zQ h (fun hb5 h => ?_) (fun hb5 h => ?_)
   ·refine zo ?_
    refine zB [(4, .cv (.slice none 0 0)), (5, .int .i64 2)] [] ?_
    refine zr ?_
    obtain rfl := Option.some.inj h
    exact zR [] [2000] []
   ·refine zk ?_
    refine zo ?_
    refine zS 2 [(22, .agg (.int .i64 v0.1 :: (.sl (.pair (.int .i64) (.pair (.int .i64) (.int .i64))) v0.2.1 :: (cellsX T69 v0.2.2.1)))), (23, .int .i64 most)] [] ?_
    obtain ⟨v0_2, hv6, h⟩ := Option.bind_eq_some_iff.1 h
    refine zC [] [] (hc_refine_frame_traces ((v0.1, v0.2.1), v0.2.2.1) most hv6) [(24, .own 34000)] [(34000, .arr 27 (.sl (.int .i64)) v0_2)] ?_
    refine zB [(4, .own 34000), (5, .int .i64 0)] [(34000, .arr 27 (.sl (.int .i64)) v0_2)] ?_
    refine AW.ret ?_
    obtain rfl := Option.some.inj h
    exact zR [] [] [(2000, 34000)]

end Go.Proofs.Ytljonmpcehlpaaa
