/-
  Made by wip/tool/dc.py out of the print of the program: contracts.
-/
import Derived.Test.YtljonmpcehlpaaaRfp
import Derived.Test.YtljonmpcehlpaaaShr
import Derived.Test.YtljonmpcehlpaaaNvc2
import Derived.Test.YtljonmpcehlpaaaNvc3
import Derived.Test.YtljonmpcehlpaaaNvc5
namespace Go.Proofs.Ytljonmpcehlpaaa
open Go.RowKit

set_option linter.unusedSimpArgs false
set_option linter.unusedVariables false
set_option linter.constructorNameAsVariable false

set_option maxRecDepth 100000
set_option maxHeartbeats 2000000

theorem hc_refine_frame_seen (f : (Int × (List (Int × Int × Int))) × (El T69)) {r : Int × (List (Int × Int × Int)) × Bool} (h : refine_frame_seen f = some r) : HC Try.prog 94 [] [.agg (.int .i64 f.1.1 :: (.sl (.pair (.int .i64) (.pair (.int .i64) (.int .i64))) f.1.2 :: (cellsX T69 f.2)))] [(2000, .arr 66 (.pair (.int .i64) (.pair (.int .i64) (.int .i64))) r.2.1)] (.tup [.agg [.int .i64 r.1, .own 2000], .bool r.2.2]) := by
 unfold refine_frame_seen at h
 refine zH Try.func94 [.cell 2 24, .tmp 3] 56 ?_
 refine zo ?_
 refine zB [(1, .bp 1 0), (2, .bp 2 0)] [(1, .box 71 (.int .i64 f.1.1 :: (.sl (.pair (.int .i64) (.pair (.int .i64) (.int .i64))) f.1.2 :: (cellsX T69 f.2)))), (2, .box 24 [.int .i64 0, .cv (.slice none 0 0)])] ?_
 refine zo ?_
 refine zS 1 [(1, .bp 1 0), (2, .bp 2 0), (9, .agg (.int .i64 f.1.1 :: (.sl (.pair (.int .i64) (.pair (.int .i64) (.int .i64))) f.1.2 :: (cellsX T69 f.2))))] [(1, .box 71 (.int .i64 f.1.1 :: (.sl (.pair (.int .i64) (.pair (.int .i64) (.int .i64))) f.1.2 :: (cellsX T69 f.2)))), (2, .box 24 [.int .i64 0, .cv (.slice none 0 0)])] ?_
 obtain ⟨v0, hv1, h⟩ := Option.bind_eq_some_iff.1 h
 refine zC [] [] (hc_refine_frame_begin f hv1) [(1, .bp 1 0), (2, .bp 2 0), (10, .int .u8 (intAt T69 f.2 0))] [(1, .box 71 (.int .i64 f.1.1 :: (.sl (.pair (.int .i64) (.pair (.int .i64) (.int .i64))) f.1.2 :: (cellsX T69 f.2)))), (2, .box 24 [.int .i64 0, .cv (.slice none 0 0)])] ?_
 refine zB [(1, .bp 1 0), (2, .bp 2 0), (4, .own 11)] [(1, .box 71 (.int .i64 f.1.1 :: (.sl (.pair (.int .i64) (.pair (.int .i64) (.int .i64))) f.1.2 :: (cellsX T69 f.2)))), (2, .box 24 [.int .i64 0, .cv (.slice none 0 0)]), (11, .arr 67 (.int .u8) [(intAt T69 f.2 0)])] ?_
 refine zo ?_
 refine zB [(1, .bp 1 0), (2, .bp 2 0), (4, .own 11), (5, .cv (.slice none 0 0))] [(1, .box 71 (.int .i64 f.1.1 :: (.sl (.pair (.int .i64) (.pair (.int .i64) (.int .i64))) f.1.2 :: (cellsX T69 f.2)))), (2, .box 24 [.int .i64 0, .cv (.slice none 0 0)]), (11, .arr 67 (.int .u8) [(intAt T69 f.2 0)])] ?_
 refine AW.have1 (fun b3_3 : (List Int) × (List (Int × Int × Int)) => refine_frame_seen_k1 b3_3 = some r) (fun b3_3 => ⟨fr [(2, .bp 2 0), (4, .own 11), (5, .own 51)], hpGet [(2, .box 24 [.int .i64 0, .cv (.slice none 0 0)]), (11, .arr 67 (.int .u8) b3_3.1), (51, .arr 66 (.pair (.int .i64) (.pair (.int .i64) (.int .i64))) b3_3.2)], gt⟩) (fun b3_3 h => ?_) (fun hk_refine_frame_seen_k1 => ?_)
 ·as_aux_lemma =>
   unfold refine_frame_seen_k1 at h
   refine zo ?_
   refine zS 5 [(2, .bp 2 0)] [(2, .box 24 [.int .i64 (b3_3.1.length : Int), .own 51]), (51, .arr 66 (.pair (.int .i64) (.pair (.int .i64) (.int .i64))) b3_3.2)] ?_
   refine zB [(2, .bp 2 0), (3, .bool true)] [(2, .box 24 [.int .i64 (b3_3.1.length : Int), .own 51]), (51, .arr 66 (.pair (.int .i64) (.pair (.int .i64) (.int .i64))) b3_3.2)] ?_
   refine AW.ret ?_
   obtain rfl := Option.some.inj h
   exact zR [] [] [(2000, 51)]
 ·refine AW.seq ?_
  refine zo ?_
  refine zB [(1, .bp 1 0), (2, .bp 2 0), (4, .own 11), (5, .cv (.slice none 0 0)), (6, .int .i64 0)] [(1, .box 71 (.int .i64 f.1.1 :: (.sl (.pair (.int .i64) (.pair (.int .i64) (.int .i64))) f.1.2 :: (cellsX T69 f.2)))), (2, .box 24 [.int .i64 0, .cv (.slice none 0 0)]), (11, .arr 67 (.int .u8) [(intAt T69 f.2 0)])] ?_
  refine AW.block ?_
  obtain ⟨rv6, hw2, ho3⟩ := Option.bind_eq_some_iff.1 h
  refine AW.loopO (refine_frame_seen_b1 f) (fun st1 => ⟨fr [(1, .bp 1 0), (2, .bp 2 0), (4, .own 11), (5, .own 51), (6, .int .i64 st1.2.2)], hpGet [(1, .box 71 (.int .i64 f.1.1 :: (.sl (.pair (.int .i64) (.pair (.int .i64) (.int .i64))) f.1.2 :: (cellsX T69 f.2)))), (2, .box 24 [.int .i64 0, .cv (.slice none 0 0)]), (11, .arr 67 (.int .u8) st1.1), (51, .arr 66 (.pair (.int .i64) (.pair (.int .i64) (.int .i64))) st1.2.1)], gt⟩) ([(intAt T69 f.2 0)], [], 0) hw2 (zL [] [51] []) ?_
  as_aux_lemma =>
   intro st1 x5 h hd4
   unfold refine_frame_seen_b1 at h
   refine AW.seq ?_
   refine zo ?_
   refine zB [(1, .bp 1 0), (2, .bp 2 0), (4, .own 11), (5, .own 51), (6, .int .i64 st1.2.2), (15, .bool (decide (st1.2.2 < (st1.1.length : Int))))] [(1, .box 71 (.int .i64 f.1.1 :: (.sl (.pair (.int .i64) (.pair (.int .i64) (.int .i64))) f.1.2 :: (cellsX T69 f.2)))), (2, .box 24 [.int .i64 0, .cv (.slice none 0 0)]), (11, .arr 67 (.int .u8) st1.1), (51, .arr 66 (.pair (.int .i64) (.pair (.int .i64) (.int .i64))) st1.2.1)] ?_
   refine zQ h (fun hb7 h => ?_) (fun hb7 h => ?_)
   ·refine zk ?_
    refine AW.have1 (fun b3_2 : (List Int) × (List (Int × Int × Int)) => refine_frame_seen_k2 st1 b3_2 = some x5) (fun b3_2 => ⟨fr [(1, .bp 1 0), (2, .bp 2 0), (4, .own 11), (5, .own 51), (6, .int .i64 st1.2.2)], hpGet [(1, .box 71 (.int .i64 f.1.1 :: (.sl (.pair (.int .i64) (.pair (.int .i64) (.int .i64))) f.1.2 :: (cellsX T69 f.2)))), (2, .box 24 [.int .i64 0, .cv (.slice none 0 0)]), (11, .arr 67 (.int .u8) b3_2.1), (51, .arr 66 (.pair (.int .i64) (.pair (.int .i64) (.int .i64))) b3_2.2)], gt⟩) (fun b3_2 h => ?_) (fun hk_refine_frame_seen_k2 => ?_)
    ·as_aux_lemma =>
      unfold refine_frame_seen_k2 at h
      refine AW.ops ?_
      obtain ⟨c8, h⟩ := ck_some.1 h
      refine zA [(1, .bp 1 0), (2, .bp 2 0), (4, .own 11), (5, .own 51), (6, .int .i64 (st1.2.2 + 1))] [(1, .box 71 (.int .i64 f.1.1 :: (.sl (.pair (.int .i64) (.pair (.int .i64) (.int .i64))) f.1.2 :: (cellsX T69 f.2)))), (2, .box 24 [.int .i64 0, .cv (.slice none 0 0)]), (11, .arr 67 (.int .u8) b3_2.1), (51, .arr 66 (.pair (.int .i64) (.pair (.int .i64) (.int .i64))) b3_2.2)] ?_
      obtain rfl := Option.some.inj h
      exact ⟨_, rfl, zL [] [] []⟩
    ·refine AW.seq ?_
     refine AW.block ?_
     refine zo ?_
     refine zB [(1, .bp 1 0), (2, .bp 2 0), (4, .own 11), (5, .own 51), (6, .int .i64 st1.2.2), (7, .int .i64 1)] [(1, .box 71 (.int .i64 f.1.1 :: (.sl (.pair (.int .i64) (.pair (.int .i64) (.int .i64))) f.1.2 :: (cellsX T69 f.2)))), (2, .box 24 [.int .i64 0, .cv (.slice none 0 0)]), (11, .arr 67 (.int .u8) st1.1), (51, .arr 66 (.pair (.int .i64) (.pair (.int .i64) (.int .i64))) st1.2.1)] ?_
     refine AW.block ?_
     obtain ⟨rv13, hw9, ho10⟩ := Option.bind_eq_some_iff.1 h
     refine AW.loopO (refine_frame_seen_b2 f st1) (fun st2 => ⟨fr [(1, .bp 1 0), (2, .bp 2 0), (4, .own 11), (5, .own 51), (6, .int .i64 st1.2.2), (7, .int .i64 st2.2.2)], hpGet [(1, .box 71 (.int .i64 f.1.1 :: (.sl (.pair (.int .i64) (.pair (.int .i64) (.int .i64))) f.1.2 :: (cellsX T69 f.2)))), (2, .box 24 [.int .i64 0, .cv (.slice none 0 0)]), (11, .arr 67 (.int .u8) st2.1), (51, .arr 66 (.pair (.int .i64) (.pair (.int .i64) (.int .i64))) st2.2.1)], gt⟩) (st1.1, st1.2.1, 1) hw9 (zL [] [] []) ?_
     as_aux_lemma =>
      intro st2 x12 h hd11
      unfold refine_frame_seen_b2 at h
      refine AW.seq ?_
      refine zo ?_
      refine zB [(1, .bp 1 0), (2, .bp 2 0), (4, .own 11), (5, .own 51), (6, .int .i64 st1.2.2), (7, .int .i64 st2.2.2), (19, .bool (decide (st2.2.2 ≤ 3)))] [(1, .box 71 (.int .i64 f.1.1 :: (.sl (.pair (.int .i64) (.pair (.int .i64) (.int .i64))) f.1.2 :: (cellsX T69 f.2)))), (2, .box 24 [.int .i64 0, .cv (.slice none 0 0)]), (11, .arr 67 (.int .u8) st2.1), (51, .arr 66 (.pair (.int .i64) (.pair (.int .i64) (.int .i64))) st2.2.1)] ?_
      refine zQ h (fun hb14 h => ?_) (fun hb14 h => ?_)
      ·refine zk ?_
       refine AW.seq ?_
       refine AW.block ?_
       refine AW.seq ?_
       refine AW.draw tab_ok mixed_ok [] [] (by decide) (by kernel_rfl) ?_
       as_aux_lemma =>
        obtain ⟨c16, h⟩ := ck_some.1 h
        obtain ⟨c17, h⟩ := ck_some.1 h
        refine adops_cut 6 (fun K' hK15 => ?_)
        try dsimp only [List.drop_succ_cons, List.drop_zero, List.take_succ_cons, List.take_zero]
        simp only [go_sem, hb7, hb14]
        repeat with_reducible refine zN ?_
        refine hK15 _ ?_
        as_aux_lemma =>
         obtain ⟨v0_2, hv18, h⟩ := Option.bind_eq_some_iff.1 h
         refine adops.call (by first | trivial | rfl) rfl rfl rfl (fun _ h => h) [] [] (hc_refine_frame_after f (st2.1.getD st1.2.2.toNat 0) st2.2.2 hv18) rfl (by (simp only [go_sem, hb7, hb14]) <;> (with_reducible and_intros) <;> first | assumption | rfl | omega | (unfold maxLen; omega)) (by (simp only [go_sem, hb7, hb14]) <;> (with_reducible and_intros) <;> first | assumption | rfl | omega | (unfold maxLen; omega)) rfl ?_
         refine adops_cut 1 (fun K' hK19 => ?_)
         try dsimp only [List.drop_succ_cons, List.drop_zero, List.take_succ_cons, List.take_zero]
         simp only [go_sem, hb7, hb14]
         repeat with_reducible refine zN ?_
         refine hK19 _ ?_
         refine adops_nil ?_
         refine athen_n ?_
         refine zV [(1, .bp 1 0), (2, .bp 2 0), (4, .own 11), (5, .own 51), (6, .int .i64 st1.2.2), (7, .int .i64 st2.2.2), (8, .int .u8 v0_2)] [(1, .box 71 (.int .i64 f.1.1 :: (.sl (.pair (.int .i64) (.pair (.int .i64) (.int .i64))) f.1.2 :: (cellsX T69 f.2)))), (2, .box 24 [.int .i64 0, .cv (.slice none 0 0)]), (11, .arr 67 (.int .u8) st2.1), (51, .arr 66 (.pair (.int .i64) (.pair (.int .i64) (.int .i64))) st2.2.1)] gt ?_
         as_aux_lemma =>
          refine AW.seq ?_
          refine zo ?_
          refine zB [(1, .bp 1 0), (2, .bp 2 0), (4, .own 11), (5, .own 51), (6, .int .i64 st1.2.2), (7, .int .i64 st2.2.2), (8, .int .u8 v0_2), (30, .bool (decide (v0_2 = 0)))] [(1, .box 71 (.int .i64 f.1.1 :: (.sl (.pair (.int .i64) (.pair (.int .i64) (.int .i64))) f.1.2 :: (cellsX T69 f.2)))), (2, .box 24 [.int .i64 0, .cv (.slice none 0 0)]), (11, .arr 67 (.int .u8) st2.1), (51, .arr 66 (.pair (.int .i64) (.pair (.int .i64) (.int .i64))) st2.2.1)] ?_
          refine zQ h (fun hb20 h => ?_) (fun hb20 h => ?_)
          ·refine AW.exit ?_
           refine athen_e ?_
           refine ablock_s ?_
           refine athen_n ?_
           refine AW.ops ?_
           obtain ⟨c21, h⟩ := ck_some.1 h
           refine zA [(1, .bp 1 0), (2, .bp 2 0), (4, .own 11), (5, .own 51), (6, .int .i64 st1.2.2), (7, .int .i64 (st2.2.2 + 1))] [(1, .box 71 (.int .i64 f.1.1 :: (.sl (.pair (.int .i64) (.pair (.int .i64) (.int .i64))) f.1.2 :: (cellsX T69 f.2)))), (2, .box 24 [.int .i64 0, .cv (.slice none 0 0)]), (11, .arr 67 (.int .u8) st2.1), (51, .arr 66 (.pair (.int .i64) (.pair (.int .i64) (.int .i64))) st2.2.1)] ?_
           obtain rfl := Option.some.inj h
           exact ⟨_, rfl, zL [] [] []⟩
          ·refine zk ?_
           refine AW.have1 (fun b3 : (List Int) => refine_frame_seen_k3 st1 st2 v0_2 b3 = some x12) (fun b3 => ⟨fr [(1, .bp 1 0), (2, .bp 2 0), (4, .own 38), (5, .own 51), (6, .int .i64 st1.2.2), (7, .int .i64 st2.2.2), (8, .int .u8 v0_2)], hpGet [(1, .box 71 (.int .i64 f.1.1 :: (.sl (.pair (.int .i64) (.pair (.int .i64) (.int .i64))) f.1.2 :: (cellsX T69 f.2)))), (2, .box 24 [.int .i64 0, .cv (.slice none 0 0)]), (38, .arr 67 (.int .u8) b3), (51, .arr 66 (.pair (.int .i64) (.pair (.int .i64) (.int .i64))) st2.2.1)], gt⟩) (fun b3 h => ?_) (fun hk_refine_frame_seen_k3 => ?_)
           ·as_aux_lemma =>
             unfold refine_frame_seen_k3 at h
             refine AW.seq ?_
             refine zo ?_
             refine zB [(1, .bp 1 0), (2, .bp 2 0), (4, .own 38), (5, .own 51), (6, .int .i64 st1.2.2), (7, .int .i64 st2.2.2), (8, .int .u8 v0_2), (41, .bool (decide (6 < (b3.length : Int))))] [(1, .box 71 (.int .i64 f.1.1 :: (.sl (.pair (.int .i64) (.pair (.int .i64) (.int .i64))) f.1.2 :: (cellsX T69 f.2)))), (2, .box 24 [.int .i64 0, .cv (.slice none 0 0)]), (38, .arr 67 (.int .u8) b3), (51, .arr 66 (.pair (.int .i64) (.pair (.int .i64) (.int .i64))) st2.2.1)] ?_
             refine zQ h (fun hb22 h => ?_) (fun hb22 h => ?_)
             ·refine zo ?_
              refine zB [(2, .bp 2 0), (3, .bool false)] [(2, .box 24 [.int .i64 0, .cv (.slice none 0 0)])] ?_
              refine zr ?_
              refine ablock_r ?_
              refine athen_r ?_
              obtain rfl := Option.some.inj h
              rw [← hd11 _ rfl] at ho10
              have h := ho10
              try simp only at h
              refine athen_r ?_
              refine ablock_r ?_
              refine ablock_r ?_
              refine athen_r ?_
              obtain rfl := Option.some.inj h
              rw [← hd4 _ rfl] at ho3
              have h := ho3
              try simp only at h
              refine athen_r ?_
              refine ablock_r ?_
              refine athen_r ?_
              obtain rfl := Option.some.inj h
              exact zR [] [2000] []
             ·refine zk ?_
              refine AW.ops ?_
              refine zS 5 [(1, .bp 1 0), (2, .bp 2 0), (4, .own 38), (6, .int .i64 st1.2.2), (7, .int .i64 st2.2.2), (43, .own 51), (44, .int .i64 st1.2.2), (45, .int .i64 st2.2.2), (46, .own 38), (47, .int .u8 v0_2)] [(1, .box 71 (.int .i64 f.1.1 :: (.sl (.pair (.int .i64) (.pair (.int .i64) (.int .i64))) f.1.2 :: (cellsX T69 f.2)))), (2, .box 24 [.int .i64 0, .cv (.slice none 0 0)]), (38, .arr 67 (.int .u8) b3), (51, .arr 66 (.pair (.int .i64) (.pair (.int .i64) (.int .i64))) st2.2.1)] ?_
              obtain ⟨v0_4, hv23, h⟩ := Option.bind_eq_some_iff.1 h
              refine zC [38] [] (hc_slices_Index_2 b3 v0_2 hv23) [(1, .bp 1 0), (2, .bp 2 0), (4, .own 38), (6, .int .i64 st1.2.2), (7, .int .i64 st2.2.2), (43, .own 51), (44, .int .i64 st1.2.2), (45, .int .i64 st2.2.2), (48, .int .i64 v0_4)] [(1, .box 71 (.int .i64 f.1.1 :: (.sl (.pair (.int .i64) (.pair (.int .i64) (.int .i64))) f.1.2 :: (cellsX T69 f.2)))), (2, .box 24 [.int .i64 0, .cv (.slice none 0 0)]), (38, .arr 67 (.int .u8) b3), (51, .arr 66 (.pair (.int .i64) (.pair (.int .i64) (.int .i64))) st2.2.1)] ?_
              obtain ⟨c24, h⟩ := ck_some.1 h
              refine zA [(1, .bp 1 0), (2, .bp 2 0), (4, .own 38), (5, .own 51), (6, .int .i64 st1.2.2), (7, .int .i64 st2.2.2)] [(1, .box 71 (.int .i64 f.1.1 :: (.sl (.pair (.int .i64) (.pair (.int .i64) (.int .i64))) f.1.2 :: (cellsX T69 f.2)))), (2, .box 24 [.int .i64 0, .cv (.slice none 0 0)]), (38, .arr 67 (.int .u8) b3), (51, .arr 66 (.pair (.int .i64) (.pair (.int .i64) (.int .i64))) (st2.2.1 ++ [(st1.2.2, st2.2.2, v0_4)]))] ?_
              refine ablock_n ?_
              refine athen_n ?_
              refine AW.ops ?_
              obtain ⟨c25, h⟩ := ck_some.1 h
              refine zA [(1, .bp 1 0), (2, .bp 2 0), (4, .own 38), (5, .own 51), (6, .int .i64 st1.2.2), (7, .int .i64 (st2.2.2 + 1))] [(1, .box 71 (.int .i64 f.1.1 :: (.sl (.pair (.int .i64) (.pair (.int .i64) (.int .i64))) f.1.2 :: (cellsX T69 f.2)))), (2, .box 24 [.int .i64 0, .cv (.slice none 0 0)]), (38, .arr 67 (.int .u8) b3), (51, .arr 66 (.pair (.int .i64) (.pair (.int .i64) (.int .i64))) (st2.2.1 ++ [(st1.2.2, st2.2.2, v0_4)]))] ?_
              obtain rfl := Option.some.inj h
              exact ⟨_, rfl, zL [] [] [(11, 38)]⟩
           ·refine AW.seq ?_
            refine zo ?_
            refine zS 2 [(1, .bp 1 0), (2, .bp 2 0), (4, .own 11), (5, .own 51), (6, .int .i64 st1.2.2), (7, .int .i64 st2.2.2), (8, .int .u8 v0_2), (31, .own 11), (32, .int .u8 v0_2)] [(1, .box 71 (.int .i64 f.1.1 :: (.sl (.pair (.int .i64) (.pair (.int .i64) (.int .i64))) f.1.2 :: (cellsX T69 f.2)))), (2, .box 24 [.int .i64 0, .cv (.slice none 0 0)]), (11, .arr 67 (.int .u8) st2.1), (51, .arr 66 (.pair (.int .i64) (.pair (.int .i64) (.int .i64))) st2.2.1)] ?_
            obtain ⟨v0_3, hv26, h⟩ := Option.bind_eq_some_iff.1 h
            refine zC [11] [] (hc_slices_Contains_2 st2.1 v0_2 hv26) [(1, .bp 1 0), (2, .bp 2 0), (4, .own 11), (5, .own 51), (6, .int .i64 st1.2.2), (7, .int .i64 st2.2.2), (8, .int .u8 v0_2), (33, .bool v0_3)] [(1, .box 71 (.int .i64 f.1.1 :: (.sl (.pair (.int .i64) (.pair (.int .i64) (.int .i64))) f.1.2 :: (cellsX T69 f.2)))), (2, .box 24 [.int .i64 0, .cv (.slice none 0 0)]), (11, .arr 67 (.int .u8) st2.1), (51, .arr 66 (.pair (.int .i64) (.pair (.int .i64) (.int .i64))) st2.2.1)] ?_
            refine zB [(1, .bp 1 0), (2, .bp 2 0), (4, .own 11), (5, .own 51), (6, .int .i64 st1.2.2), (7, .int .i64 st2.2.2), (8, .int .u8 v0_2), (34, .bool (!v0_3))] [(1, .box 71 (.int .i64 f.1.1 :: (.sl (.pair (.int .i64) (.pair (.int .i64) (.int .i64))) f.1.2 :: (cellsX T69 f.2)))), (2, .box 24 [.int .i64 0, .cv (.slice none 0 0)]), (11, .arr 67 (.int .u8) st2.1), (51, .arr 66 (.pair (.int .i64) (.pair (.int .i64) (.int .i64))) st2.2.1)] ?_
            refine zQ h (fun hb27 h => ?_) (fun hb27 h => ?_)
            ·refine AW.ops ?_
             obtain ⟨c28, h⟩ := ck_some.1 h
             refine zB [(1, .bp 1 0), (2, .bp 2 0), (4, .own 38), (5, .own 51), (6, .int .i64 st1.2.2), (7, .int .i64 st2.2.2), (8, .int .u8 v0_2)] [(1, .box 71 (.int .i64 f.1.1 :: (.sl (.pair (.int .i64) (.pair (.int .i64) (.int .i64))) f.1.2 :: (cellsX T69 f.2)))), (2, .box 24 [.int .i64 0, .cv (.slice none 0 0)]), (38, .arr 67 (.int .u8) (st2.1 ++ [v0_2])), (51, .arr 66 (.pair (.int .i64) (.pair (.int .i64) (.int .i64))) st2.2.1)] ?_
             exact AW.weaken (zL [] [] []) (hk_refine_frame_seen_k3 _ h)
            ·refine zk ?_
             exact AW.weaken (zL [] [] [(38, 11)]) (hk_refine_frame_seen_k3 _ h)
      ·refine AW.exit ?_
       refine athen_e ?_
       obtain rfl := Option.some.inj h
       rw [← hd11 _ rfl] at ho10
       have h := ho10
       try simp only at h
       refine athen_e ?_
       refine ablock_s ?_
       refine ablock_n ?_
       refine athen_n ?_
       exact AW.weaken (zL [] [] []) (hk_refine_frame_seen_k2 _ h)
   ·refine AW.exit ?_
    refine athen_e ?_
    obtain rfl := Option.some.inj h
    rw [← hd4 _ rfl] at ho3
    have h := ho3
    try simp only at h
    refine athen_e ?_
    refine ablock_s ?_
    refine athen_n ?_
    exact AW.weaken (zL [] [] []) (hk_refine_frame_seen_k1 _ h)

theorem hc_refine_Seen (s : Int × (List (Int × Int × Int))) {r : Int × (List (Int × Int × Int)) × Int} (h : refine_Seen s = some r) : HC Try.prog 45 [] [.agg [.int .i64 s.1, .sl (.pair (.int .i64) (.pair (.int .i64) (.int .i64))) s.2]] [(2000, .arr 66 (.pair (.int .i64) (.pair (.int .i64) (.int .i64))) r.2.1)] (.tup [.agg [.int .i64 r.1, .own 2000], .int .i64 r.2.2]) := by
 unfold refine_Seen at h
 refine zH Try.func45 [.cell 2 24, .tmp 3] 26 ?_
 refine zo ?_
 refine zB [(1, .bp 1 0), (2, .bp 2 0)] [(1, .box 24 [.int .i64 s.1, .sl (.pair (.int .i64) (.pair (.int .i64) (.int .i64))) s.2]), (2, .box 24 [.int .i64 0, .cv (.slice none 0 0)])] ?_
 refine zo ?_
 refine zS 1 [(2, .bp 2 0), (9, .agg [.int .i64 s.1, .sl (.pair (.int .i64) (.pair (.int .i64) (.int .i64))) s.2])] [(2, .box 24 [.int .i64 0, .cv (.slice none 0 0)])] ?_
 obtain ⟨v0, hv1, h⟩ := Option.bind_eq_some_iff.1 h
 refine zC [] [] (hc_refine_frameOf s hv1) [(2, .bp 2 0), (10, .tup [.agg (.int .i64 v0.1 :: (.sl (.pair (.int .i64) (.pair (.int .i64) (.int .i64))) v0.2.1 :: (cellsX T69 v0.2.2.1))), .int .i64 v0.2.2.2])] [(2, .box 24 [.int .i64 0, .cv (.slice none 0 0)])] ?_
 refine zS 5 [(2, .bp 2 0), (4, .bp 4 0), (12, .int .i64 v0.2.2.2)] [(2, .box 24 [.int .i64 0, .cv (.slice none 0 0)]), (4, .box 71 (.int .i64 v0.1 :: (.sl (.pair (.int .i64) (.pair (.int .i64) (.int .i64))) v0.2.1 :: (cellsX T69 v0.2.2.1))))] ?_
 refine zB [(2, .bp 2 0), (4, .bp 4 0), (5, .int .i64 v0.2.2.2)] [(2, .box 24 [.int .i64 0, .cv (.slice none 0 0)]), (4, .box 71 (.int .i64 v0.1 :: (.sl (.pair (.int .i64) (.pair (.int .i64) (.int .i64))) v0.2.1 :: (cellsX T69 v0.2.2.1))))] ?_
 refine AW.seq ?_
 refine zo ?_
 refine zB [(2, .bp 2 0), (4, .bp 4 0), (5, .int .i64 v0.2.2.2), (14, .bool (!(decide (v0.2.2.2 = 0))))] [(2, .box 24 [.int .i64 0, .cv (.slice none 0 0)]), (4, .box 71 (.int .i64 v0.1 :: (.sl (.pair (.int .i64) (.pair (.int .i64) (.int .i64))) v0.2.1 :: (cellsX T69 v0.2.2.1))))] ?_
 refine zQ h (fun hb2 h => ?_) (fun hb2 h => ?_)
 ·refine zo ?_
  refine zB [(2, .bp 2 0), (3, .int .i64 v0.2.2.2)] [(2, .box 24 [.int .i64 0, .cv (.slice none 0 0)])] ?_
  refine zr ?_
  obtain rfl := Option.some.inj h
  exact zR [] [2000] []
 ·refine zk ?_
  refine zo ?_
  refine zS 1 [(2, .bp 2 0), (18, .agg (.int .i64 v0.1 :: (.sl (.pair (.int .i64) (.pair (.int .i64) (.int .i64))) v0.2.1 :: (cellsX T69 v0.2.2.1))))] [(2, .box 24 [.int .i64 0, .cv (.slice none 0 0)])] ?_
  obtain ⟨v0_2, hv3, h⟩ := Option.bind_eq_some_iff.1 h
  refine zC [] [] (hc_refine_frame_seen ((v0.1, v0.2.1), v0.2.2.1) hv3) [(2, .bp 2 0), (19, .tup [.agg [.int .i64 v0_2.1, .own 29000], .bool v0_2.2.2])] [(2, .box 24 [.int .i64 0, .cv (.slice none 0 0)]), (29000, .arr 66 (.pair (.int .i64) (.pair (.int .i64) (.int .i64))) v0_2.2.1)] ?_
  refine zS 5 [(2, .bp 2 0), (6, .bp 6 0), (21, .bool v0_2.2.2)] [(2, .box 24 [.int .i64 0, .cv (.slice none 0 0)]), (6, .box 24 [.int .i64 v0_2.1, .own 29000]), (29000, .arr 66 (.pair (.int .i64) (.pair (.int .i64) (.int .i64))) v0_2.2.1)] ?_
  refine zB [(2, .bp 2 0), (6, .bp 6 0), (7, .bool v0_2.2.2)] [(2, .box 24 [.int .i64 0, .cv (.slice none 0 0)]), (6, .box 24 [.int .i64 v0_2.1, .own 29000]), (29000, .arr 66 (.pair (.int .i64) (.pair (.int .i64) (.int .i64))) v0_2.2.1)] ?_
  refine AW.seq ?_
  refine zo ?_
  refine zB [(2, .bp 2 0), (6, .bp 6 0), (23, .bool (!v0_2.2.2))] [(2, .box 24 [.int .i64 0, .cv (.slice none 0 0)]), (6, .box 24 [.int .i64 v0_2.1, .own 29000]), (29000, .arr 66 (.pair (.int .i64) (.pair (.int .i64) (.int .i64))) v0_2.2.1)] ?_
  refine zQ h (fun hb4 h => ?_) (fun hb4 h => ?_)
  ·refine zo ?_
   refine zB [(2, .bp 2 0), (3, .int .i64 4)] [(2, .box 24 [.int .i64 0, .cv (.slice none 0 0)])] ?_
   refine zr ?_
   obtain rfl := Option.some.inj h
   exact zR [] [2000] []
  ·refine zk ?_
   refine zo ?_
   refine zB [(2, .bp 2 0), (3, .int .i64 0)] [(2, .box 24 [.int .i64 v0_2.1, .own 29000]), (29000, .arr 66 (.pair (.int .i64) (.pair (.int .i64) (.int .i64))) v0_2.2.1)] ?_
   refine AW.ret ?_
   obtain rfl := Option.some.inj h
   exact zR [] [] [(2000, 29000)]

end Go.Proofs.Ytljonmpcehlpaaa
