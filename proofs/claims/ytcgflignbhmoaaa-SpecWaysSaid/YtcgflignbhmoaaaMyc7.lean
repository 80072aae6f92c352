/-
  Made by wip/tool/dc.py out of the print of the program: contracts.
-/
import Derived.Test.YtcgflignbhmoaaaQp
import Derived.Test.YtcgflignbhmoaaaShs
import Derived.Test.YtcgflignbhmoaaaAvd
import Derived.Test.YtcgflignbhmoaaaMyc3
import Derived.Test.YtcgflignbhmoaaaMyc6
namespace Go.Proofs.Ytcgflignbhmoaaa
open Go.RowKit

set_option linter.unusedSimpArgs false
set_option linter.unusedVariables false
set_option linter.constructorNameAsVariable false

set_option maxRecDepth 100000
set_option maxHeartbeats 2000000

theorem hc_linealref01_ways (s : Int × Int × (List (List Int)) × (List (List Int))) {r : (List (List Int)) × (List Bool)} (h : linealref01_ways s = some r) : HC Try.prog 76 [] [.agg [.int .i64 s.1, .int .i64 s.2.1, .sl (.sl (.int .i64)) s.2.2.1, .sl (.sl (.int .i64)) s.2.2.2]] [(2000, .arr 25 (.sl (.int .i64)) r.1), (2001, .arr 4 .bool r.2)] (.tup [.own 2000, .own 2001]) := by
 unfold linealref01_ways at h
 refine zH Try.func76 [.tmp 2, .tmp 3] 70 ?_
 refine zo ?_
 refine zB [(1, .bp 1 0)] [(1, .box 24 [.int .i64 s.1, .int .i64 s.2.1, .sl (.sl (.int .i64)) s.2.2.1, .sl (.sl (.int .i64)) s.2.2.2])] ?_
 refine AW.seq ?_
 refine AW.draw tab_ok mixed_ok [(2, [12]), (5, [15])] [(0, [1]), (1, [1]), (2, [12]), (3, [1]), (4, [1]), (5, [15]), (6, [12])] (by decide) (by kernel_rfl) ?_
 as_aux_lemma =>
  obtain ⟨c2, h⟩ := ck_some.1 h
  obtain ⟨c3, h⟩ := ck_some.1 h
  obtain ⟨c4, h⟩ := ck_some.1 h
  obtain ⟨c5, h⟩ := ck_some.1 h
  refine adops_cut 6 (fun K' hK1 => ?_)
  try dsimp only [List.drop_succ_cons, List.drop_zero, List.take_succ_cons, List.take_zero]
  simp only [go_sem]
  repeat with_reducible refine zN ?_
  refine hK1 _ ?_
  as_aux_lemma =>
   refine adops_cut 2 (fun K' hK6 => ?_)
   try dsimp only [List.drop_succ_cons, List.drop_zero, List.take_succ_cons, List.take_zero]
   simp only [go_sem]
   repeat with_reducible refine zN ?_
   refine hK6 _ ?_
   refine adops_nil ?_
   refine athen_n ?_
   refine zV [(1, .bp 1 0), (2, .own 12), (3, .own 15)] [(1, .box 24 [.int .i64 s.1, .int .i64 s.2.1, .sl (.sl (.int .i64)) s.2.2.1, .sl (.sl (.int .i64)) s.2.2.2]), (12, .arr 25 (.sl (.int .i64)) (List.replicate s.1.toNat ([] : List Int))), (15, .arr 4 .bool (List.replicate s.1.toNat (false : Bool)))] gt ?_
   as_aux_lemma =>
    refine zo ?_
    obtain ⟨c7, h⟩ := ck_some.1 h
    refine zB [(1, .bp 1 0), (2, .own 12), (3, .own 15)] [(1, .box 24 [.int .i64 s.1, .int .i64 s.2.1, .sl (.sl (.int .i64)) s.2.2.1, .sl (.sl (.int .i64)) s.2.2.2]), (12, .arr 25 (.sl (.int .i64)) (List.replicate s.1.toNat ([] : List Int))), (15, .arr 4 .bool ((List.replicate s.1.toNat (false : Bool)).set 0 true))] ?_
    refine zo ?_
    refine zB [(1, .bp 1 0), (2, .own 12), (3, .own 15), (4, .own 18)] [(1, .box 24 [.int .i64 s.1, .int .i64 s.2.1, .sl (.sl (.int .i64)) s.2.2.1, .sl (.sl (.int .i64)) s.2.2.2]), (12, .arr 25 (.sl (.int .i64)) (List.replicate s.1.toNat ([] : List Int))), (15, .arr 4 .bool ((List.replicate s.1.toNat (false : Bool)).set 0 true)), (18, .arr 3 (.int .i64) [0])] ?_
    refine AW.have1 (fun b3_3 : (List (List Int)) × (List Bool) => linealref01_ways_k1 b3_3 = some r) (fun b3_3 => ⟨fr [(2, .own 12), (3, .own 15)], hpGet [(12, .arr 25 (.sl (.int .i64)) b3_3.1), (15, .arr 4 .bool b3_3.2)], gt⟩) (fun b3_3 h => ?_) (fun hk_linealref01_ways_k1 => ?_)
    ·as_aux_lemma =>
      unfold linealref01_ways_k1 at h
      refine zo ?_
      refine zB [(2, .own 12), (3, .own 15)] [(12, .arr 25 (.sl (.int .i64)) b3_3.1), (15, .arr 4 .bool b3_3.2)] ?_
      refine AW.ret ?_
      obtain rfl := Option.some.inj h
      exact zR [] [] [(2000, 12), (2001, 15)]
    ·refine AW.seq ?_
     refine AW.block ?_
     obtain ⟨rv12, hw8, ho9⟩ := Option.bind_eq_some_iff.1 h
     refine AW.loopO (linealref01_ways_b1 s) (fun st1 => ⟨fr [(1, .bp 1 0), (2, .own 12), (3, .own 15), (4, .own 18)], hpGet [(1, .box 24 [.int .i64 s.1, .int .i64 s.2.1, .sl (.sl (.int .i64)) s.2.2.1, .sl (.sl (.int .i64)) s.2.2.2]), (12, .arr 25 (.sl (.int .i64)) st1.1), (15, .arr 4 .bool st1.2.1), (18, .arr 3 (.int .i64) st1.2.2)], gt⟩) ((List.replicate s.1.toNat ([] : List Int)), ((List.replicate s.1.toNat (false : Bool)).set 0 true), [0]) hw8 (zL [] [] []) ?_
     as_aux_lemma =>
      intro st1 x11 h hd10
      unfold linealref01_ways_b1 at h
      refine AW.seq ?_
      refine zo ?_
      refine zB [(1, .bp 1 0), (2, .own 12), (3, .own 15), (4, .own 18), (21, .bool (decide (0 < (st1.2.2.length : Int))))] [(1, .box 24 [.int .i64 s.1, .int .i64 s.2.1, .sl (.sl (.int .i64)) s.2.2.1, .sl (.sl (.int .i64)) s.2.2.2]), (12, .arr 25 (.sl (.int .i64)) st1.1), (15, .arr 4 .bool st1.2.1), (18, .arr 3 (.int .i64) st1.2.2)] ?_
      refine zQ h (fun hb13 h => ?_) (fun hb13 h => ?_)
      ·refine zk ?_
       refine AW.block ?_
       refine zo ?_
       refine zB [(1, .bp 1 0), (2, .own 12), (3, .own 15), (4, .own 18), (5, .cv (.slice none 0 0))] [(1, .box 24 [.int .i64 s.1, .int .i64 s.2.1, .sl (.sl (.int .i64)) s.2.2.1, .sl (.sl (.int .i64)) s.2.2.2]), (12, .arr 25 (.sl (.int .i64)) st1.1), (15, .arr 4 .bool st1.2.1), (18, .arr 3 (.int .i64) st1.2.2)] ?_
       refine AW.have1 (fun b3_2 : (List (List Int)) × (List Bool) × (List Int) => linealref01_ways_k2 b3_2 = some x11) (fun b3_2 => ⟨fr [(1, .bp 1 0), (2, .own 12), (3, .own 15), (5, .own 64)], hpGet [(1, .box 24 [.int .i64 s.1, .int .i64 s.2.1, .sl (.sl (.int .i64)) s.2.2.1, .sl (.sl (.int .i64)) s.2.2.2]), (12, .arr 25 (.sl (.int .i64)) b3_2.1), (15, .arr 4 .bool b3_2.2.1), (64, .arr 3 (.int .i64) b3_2.2.2)], gt⟩) (fun b3_2 h => ?_) (fun hk_linealref01_ways_k2 => ?_)
       ·as_aux_lemma =>
         unfold linealref01_ways_k2 at h
         refine AW.ops ?_
         refine zA [(1, .bp 1 0), (2, .own 12), (3, .own 15), (4, .own 64)] [(1, .box 24 [.int .i64 s.1, .int .i64 s.2.1, .sl (.sl (.int .i64)) s.2.2.1, .sl (.sl (.int .i64)) s.2.2.2]), (12, .arr 25 (.sl (.int .i64)) b3_2.1), (15, .arr 4 .bool b3_2.2.1), (64, .arr 3 (.int .i64) b3_2.2.2)] ?_
         refine ablock_n ?_
         obtain rfl := Option.some.inj h
         exact ⟨_, rfl, zL [] [] [(18, 64)]⟩
       ·refine AW.seq ?_
        refine zo ?_
        refine zB [(1, .bp 1 0), (2, .own 12), (3, .own 15), (5, .cv (.slice none 0 0)), (22, .own 18), (23, .int .i64 (st1.2.2.length : Int)), (24, .int .i64 0)] [(1, .box 24 [.int .i64 s.1, .int .i64 s.2.1, .sl (.sl (.int .i64)) s.2.2.1, .sl (.sl (.int .i64)) s.2.2.2]), (12, .arr 25 (.sl (.int .i64)) st1.1), (15, .arr 4 .bool st1.2.1), (18, .arr 3 (.int .i64) st1.2.2)] ?_
        refine AW.block ?_
        obtain ⟨rv18, hw14, ho15⟩ := Option.bind_eq_some_iff.1 h
        refine AW.loopO (linealref01_ways_b2 s st1) (fun st2 => ⟨fr [(1, .bp 1 0), (2, .own 12), (3, .own 15), (5, .own 64), (22, .own 18), (23, .int .i64 (st1.2.2.length : Int)), (24, .int .i64 st2.2.2.2)], hpGet [(1, .box 24 [.int .i64 s.1, .int .i64 s.2.1, .sl (.sl (.int .i64)) s.2.2.1, .sl (.sl (.int .i64)) s.2.2.2]), (12, .arr 25 (.sl (.int .i64)) st2.1), (15, .arr 4 .bool st2.2.1), (18, .arr 3 (.int .i64) st1.2.2), (64, .arr 3 (.int .i64) st2.2.2.1)], gt⟩) (st1.1, st1.2.1, [], 0) hw14 (zL [] [64] []) ?_
        as_aux_lemma =>
         intro st2 x17 h hd16
         unfold linealref01_ways_b2 at h
         refine zo ?_
         refine zB [(1, .bp 1 0), (2, .own 12), (3, .own 15), (5, .own 64), (22, .own 18), (23, .int .i64 (st1.2.2.length : Int)), (24, .int .i64 st2.2.2.2), (25, .bool (decide (st2.2.2.2 < (st1.2.2.length : Int))))] [(1, .box 24 [.int .i64 s.1, .int .i64 s.2.1, .sl (.sl (.int .i64)) s.2.2.1, .sl (.sl (.int .i64)) s.2.2.2]), (12, .arr 25 (.sl (.int .i64)) st2.1), (15, .arr 4 .bool st2.2.1), (18, .arr 3 (.int .i64) st1.2.2), (64, .arr 3 (.int .i64) st2.2.2.1)] ?_
         refine AW.seq ?_
         refine zQ h (fun hb19 h => ?_) (fun hb19 h => ?_)
         ·refine zk ?_
          refine AW.have1 (fun b3 : (List (List Int)) × (List Bool) × (List Int) => linealref01_ways_k3 st2 b3 = some x17) (fun b3 => ⟨fr [(1, .bp 1 0), (2, .own 12), (3, .own 15), (5, .own 64), (22, .own 18), (23, .int .i64 (st1.2.2.length : Int)), (24, .int .i64 st2.2.2.2)], hpGet [(1, .box 24 [.int .i64 s.1, .int .i64 s.2.1, .sl (.sl (.int .i64)) s.2.2.1, .sl (.sl (.int .i64)) s.2.2.2]), (12, .arr 25 (.sl (.int .i64)) b3.1), (15, .arr 4 .bool b3.2.1), (18, .arr 3 (.int .i64) st1.2.2), (64, .arr 3 (.int .i64) b3.2.2)], gt⟩) (fun b3 h => ?_) (fun hk_linealref01_ways_k3 => ?_)
          ·as_aux_lemma =>
            unfold linealref01_ways_k3 at h
            refine AW.ops ?_
            obtain ⟨c20, h⟩ := ck_some.1 h
            refine zA [(1, .bp 1 0), (2, .own 12), (3, .own 15), (5, .own 64), (22, .own 18), (23, .int .i64 (st1.2.2.length : Int)), (24, .int .i64 (st2.2.2.2 + 1))] [(1, .box 24 [.int .i64 s.1, .int .i64 s.2.1, .sl (.sl (.int .i64)) s.2.2.1, .sl (.sl (.int .i64)) s.2.2.2]), (12, .arr 25 (.sl (.int .i64)) b3.1), (15, .arr 4 .bool b3.2.1), (18, .arr 3 (.int .i64) st1.2.2), (64, .arr 3 (.int .i64) b3.2.2)] ?_
            obtain rfl := Option.some.inj h
            exact ⟨_, rfl, zL [] [] []⟩
          ·refine AW.seq ?_
           refine AW.block ?_
           refine zo ?_
           obtain ⟨c21, h⟩ := ck_some.1 h
           obtain ⟨c22, h⟩ := ck_some.1 h
           refine zB [(1, .bp 1 0), (2, .own 12), (3, .own 15), (5, .own 64), (7, .int .i64 (st1.2.2.getD st2.2.2.2.toNat 0)), (22, .own 18), (23, .int .i64 (st1.2.2.length : Int)), (24, .int .i64 st2.2.2.2)] [(1, .box 24 [.int .i64 s.1, .int .i64 s.2.1, .sl (.sl (.int .i64)) s.2.2.1, .sl (.sl (.int .i64)) s.2.2.2]), (12, .arr 25 (.sl (.int .i64)) st2.1), (15, .arr 4 .bool st2.2.1), (18, .arr 3 (.int .i64) st1.2.2), (64, .arr 3 (.int .i64) st2.2.2.1)] ?_
           refine zo ?_
           refine zB [(1, .bp 1 0), (2, .own 12), (3, .own 15), (5, .own 64), (7, .int .i64 (st1.2.2.getD st2.2.2.2.toNat 0)), (22, .own 18), (23, .int .i64 (st1.2.2.length : Int)), (24, .int .i64 st2.2.2.2), (29, .int .i64 s.2.1), (30, .int .i64 0)] [(1, .box 24 [.int .i64 s.1, .int .i64 s.2.1, .sl (.sl (.int .i64)) s.2.2.1, .sl (.sl (.int .i64)) s.2.2.2]), (12, .arr 25 (.sl (.int .i64)) st2.1), (15, .arr 4 .bool st2.2.1), (18, .arr 3 (.int .i64) st1.2.2), (64, .arr 3 (.int .i64) st2.2.2.1)] ?_
           refine AW.block ?_
           obtain ⟨rv27, hw23, ho24⟩ := Option.bind_eq_some_iff.1 h
           refine AW.loopO (linealref01_ways_b3 s st1 st2) (fun st3 => ⟨fr [(1, .bp 1 0), (2, .own 12), (3, .own 15), (5, .own 64), (7, .int .i64 (st1.2.2.getD st2.2.2.2.toNat 0)), (22, .own 18), (23, .int .i64 (st1.2.2.length : Int)), (24, .int .i64 st2.2.2.2), (29, .int .i64 s.2.1), (30, .int .i64 st3.2.2.2)], hpGet [(1, .box 24 [.int .i64 s.1, .int .i64 s.2.1, .sl (.sl (.int .i64)) s.2.2.1, .sl (.sl (.int .i64)) s.2.2.2]), (12, .arr 25 (.sl (.int .i64)) st3.1), (15, .arr 4 .bool st3.2.1), (18, .arr 3 (.int .i64) st1.2.2), (64, .arr 3 (.int .i64) st3.2.2.1)], gt⟩) (st2.1, st2.2.1, st2.2.2.1, 0) hw23 (zL [] [] []) ?_
           as_aux_lemma =>
            intro st3 x26 h hd25
            unfold linealref01_ways_b3 at h
            refine zo ?_
            refine zB [(1, .bp 1 0), (2, .own 12), (3, .own 15), (5, .own 64), (7, .int .i64 (st1.2.2.getD st2.2.2.2.toNat 0)), (22, .own 18), (23, .int .i64 (st1.2.2.length : Int)), (24, .int .i64 st2.2.2.2), (29, .int .i64 s.2.1), (30, .int .i64 st3.2.2.2), (31, .bool (decide (st3.2.2.2 < s.2.1)))] [(1, .box 24 [.int .i64 s.1, .int .i64 s.2.1, .sl (.sl (.int .i64)) s.2.2.1, .sl (.sl (.int .i64)) s.2.2.2]), (12, .arr 25 (.sl (.int .i64)) st3.1), (15, .arr 4 .bool st3.2.1), (18, .arr 3 (.int .i64) st1.2.2), (64, .arr 3 (.int .i64) st3.2.2.1)] ?_
            refine AW.seq ?_
            refine zQ h (fun hb28 h => ?_) (fun hb28 h => ?_)
            ·refine zk ?_
             refine AW.seq ?_
             refine AW.block ?_
             refine zo ?_
             refine zB [(1, .bp 1 0), (2, .own 12), (3, .own 15), (5, .own 64), (7, .int .i64 (st1.2.2.getD st2.2.2.2.toNat 0)), (8, .int .i64 st3.2.2.2), (22, .own 18), (23, .int .i64 (st1.2.2.length : Int)), (24, .int .i64 st2.2.2.2), (29, .int .i64 s.2.1), (30, .int .i64 st3.2.2.2)] [(1, .box 24 [.int .i64 s.1, .int .i64 s.2.1, .sl (.sl (.int .i64)) s.2.2.1, .sl (.sl (.int .i64)) s.2.2.2]), (12, .arr 25 (.sl (.int .i64)) st3.1), (15, .arr 4 .bool st3.2.1), (18, .arr 3 (.int .i64) st1.2.2), (64, .arr 3 (.int .i64) st3.2.2.1)] ?_
             refine zo ?_
             obtain ⟨c29, h⟩ := ck_some.1 h
             obtain ⟨c30, h⟩ := ck_some.1 h
             refine zS 5 [(1, .bp 1 0), (2, .own 12), (3, .own 15), (5, .own 64), (7, .int .i64 (st1.2.2.getD st2.2.2.2.toNat 0)), (8, .int .i64 st3.2.2.2), (22, .own 18), (23, .int .i64 (st1.2.2.length : Int)), (24, .int .i64 st2.2.2.2), (29, .int .i64 s.2.1), (30, .int .i64 st3.2.2.2), (37, .sl (.int .i64) (s.2.2.1.getD (st1.2.2.getD st2.2.2.2.toNat 0).toNat []))] [(1, .box 24 [.int .i64 s.1, .int .i64 s.2.1, .sl (.sl (.int .i64)) s.2.2.1, .sl (.sl (.int .i64)) s.2.2.2]), (12, .arr 25 (.sl (.int .i64)) st3.1), (15, .arr 4 .bool st3.2.1), (18, .arr 3 (.int .i64) st1.2.2), (64, .arr 3 (.int .i64) st3.2.2.1)] ?_
             obtain ⟨c31, h⟩ := ck_some.1 h
             obtain ⟨c32, h⟩ := ck_some.1 h
             refine zB [(1, .bp 1 0), (2, .own 12), (3, .own 15), (5, .own 64), (7, .int .i64 (st1.2.2.getD st2.2.2.2.toNat 0)), (8, .int .i64 st3.2.2.2), (9, .int .i64 ((s.2.2.1.getD (st1.2.2.getD st2.2.2.2.toNat 0).toNat []).getD st3.2.2.2.toNat 0)), (22, .own 18), (23, .int .i64 (st1.2.2.length : Int)), (24, .int .i64 st2.2.2.2), (29, .int .i64 s.2.1), (30, .int .i64 st3.2.2.2)] [(1, .box 24 [.int .i64 s.1, .int .i64 s.2.1, .sl (.sl (.int .i64)) s.2.2.1, .sl (.sl (.int .i64)) s.2.2.2]), (12, .arr 25 (.sl (.int .i64)) st3.1), (15, .arr 4 .bool st3.2.1), (18, .arr 3 (.int .i64) st1.2.2), (64, .arr 3 (.int .i64) st3.2.2.1)] ?_
             refine zo ?_
             obtain ⟨c33, h⟩ := ck_some.1 h
             obtain ⟨c34, h⟩ := ck_some.1 h
             refine zB [(1, .bp 1 0), (2, .own 12), (3, .own 15), (5, .own 64), (7, .int .i64 (st1.2.2.getD st2.2.2.2.toNat 0)), (8, .int .i64 st3.2.2.2), (9, .int .i64 ((s.2.2.1.getD (st1.2.2.getD st2.2.2.2.toNat 0).toNat []).getD st3.2.2.2.toNat 0)), (22, .own 18), (23, .int .i64 (st1.2.2.length : Int)), (24, .int .i64 st2.2.2.2), (29, .int .i64 s.2.1), (30, .int .i64 st3.2.2.2), (45, .bool (!(st3.2.1.getD ((s.2.2.1.getD (st1.2.2.getD st2.2.2.2.toNat 0).toNat []).getD st3.2.2.2.toNat 0).toNat false)))] [(1, .box 24 [.int .i64 s.1, .int .i64 s.2.1, .sl (.sl (.int .i64)) s.2.2.1, .sl (.sl (.int .i64)) s.2.2.2]), (12, .arr 25 (.sl (.int .i64)) st3.1), (15, .arr 4 .bool st3.2.1), (18, .arr 3 (.int .i64) st1.2.2), (64, .arr 3 (.int .i64) st3.2.2.1)] ?_
             refine zQ h (fun hb35 h => ?_) (fun hb35 h => ?_)
             ·refine zo ?_
              obtain ⟨c36, h⟩ := ck_some.1 h
              obtain ⟨c37, h⟩ := ck_some.1 h
              refine zB [(1, .bp 1 0), (2, .own 12), (3, .own 15), (5, .own 64), (7, .int .i64 (st1.2.2.getD st2.2.2.2.toNat 0)), (8, .int .i64 st3.2.2.2), (9, .int .i64 ((s.2.2.1.getD (st1.2.2.getD st2.2.2.2.toNat 0).toNat []).getD st3.2.2.2.toNat 0)), (22, .own 18), (23, .int .i64 (st1.2.2.length : Int)), (24, .int .i64 st2.2.2.2), (29, .int .i64 s.2.1), (30, .int .i64 st3.2.2.2)] [(1, .box 24 [.int .i64 s.1, .int .i64 s.2.1, .sl (.sl (.int .i64)) s.2.2.1, .sl (.sl (.int .i64)) s.2.2.2]), (12, .arr 25 (.sl (.int .i64)) st3.1), (15, .arr 4 .bool (st3.2.1.set ((s.2.2.1.getD (st1.2.2.getD st2.2.2.2.toNat 0).toNat []).getD st3.2.2.2.toNat 0).toNat true)), (18, .arr 3 (.int .i64) st1.2.2), (64, .arr 3 (.int .i64) st3.2.2.1)] ?_
              refine zo ?_
              refine zS 5 [(1, .bp 1 0), (2, .own 12), (3, .own 15), (5, .own 64), (7, .int .i64 (st1.2.2.getD st2.2.2.2.toNat 0)), (8, .int .i64 st3.2.2.2), (9, .int .i64 ((s.2.2.1.getD (st1.2.2.getD st2.2.2.2.toNat 0).toNat []).getD st3.2.2.2.toNat 0)), (22, .own 18), (23, .int .i64 (st1.2.2.length : Int)), (24, .int .i64 st2.2.2.2), (29, .int .i64 s.2.1), (30, .int .i64 st3.2.2.2), (49, .own 12), (50, .int .i64 ((s.2.2.1.getD (st1.2.2.getD st2.2.2.2.toNat 0).toNat []).getD st3.2.2.2.toNat 0)), (51, .own 51), (52, .own 12), (53, .int .i64 (st1.2.2.getD st2.2.2.2.toNat 0))] [(1, .box 24 [.int .i64 s.1, .int .i64 s.2.1, .sl (.sl (.int .i64)) s.2.2.1, .sl (.sl (.int .i64)) s.2.2.2]), (12, .arr 25 (.sl (.int .i64)) st3.1), (15, .arr 4 .bool (st3.2.1.set ((s.2.2.1.getD (st1.2.2.getD st2.2.2.2.toNat 0).toNat []).getD st3.2.2.2.toNat 0).toNat true)), (18, .arr 3 (.int .i64) st1.2.2), (51, .arr 3 (.int .i64) []), (64, .arr 3 (.int .i64) st3.2.2.1)] ?_
              obtain ⟨c38, h⟩ := ck_some.1 h
              obtain ⟨c39, h⟩ := ck_some.1 h
              obtain ⟨c40, h⟩ := ck_some.1 h
              refine zS 5 [(1, .bp 1 0), (2, .own 12), (3, .own 15), (5, .own 64), (7, .int .i64 (st1.2.2.getD st2.2.2.2.toNat 0)), (9, .int .i64 ((s.2.2.1.getD (st1.2.2.getD st2.2.2.2.toNat 0).toNat []).getD st3.2.2.2.toNat 0)), (22, .own 18), (23, .int .i64 (st1.2.2.length : Int)), (24, .int .i64 st2.2.2.2), (29, .int .i64 s.2.1), (30, .int .i64 st3.2.2.2), (49, .own 12), (50, .int .i64 ((s.2.2.1.getD (st1.2.2.getD st2.2.2.2.toNat 0).toNat []).getD st3.2.2.2.toNat 0)), (56, .own 56), (58, .own 58)] [(1, .box 24 [.int .i64 s.1, .int .i64 s.2.1, .sl (.sl (.int .i64)) s.2.2.1, .sl (.sl (.int .i64)) s.2.2.2]), (12, .arr 25 (.sl (.int .i64)) st3.1), (15, .arr 4 .bool (st3.2.1.set ((s.2.2.1.getD (st1.2.2.getD st2.2.2.2.toNat 0).toNat []).getD st3.2.2.2.toNat 0).toNat true)), (18, .arr 3 (.int .i64) st1.2.2), (56, .arr 3 (.int .i64) (st3.1.getD (st1.2.2.getD st2.2.2.2.toNat 0).toNat [])), (58, .arr 3 (.int .i64) [st3.2.2.2]), (64, .arr 3 (.int .i64) st3.2.2.1)] ?_
              obtain ⟨c41, h⟩ := ck_some.1 h
              obtain ⟨c42, h⟩ := ck_some.1 h
              obtain ⟨c43, h⟩ := ck_some.1 h
              refine zB [(1, .bp 1 0), (2, .own 12), (3, .own 15), (5, .own 64), (7, .int .i64 (st1.2.2.getD st2.2.2.2.toNat 0)), (9, .int .i64 ((s.2.2.1.getD (st1.2.2.getD st2.2.2.2.toNat 0).toNat []).getD st3.2.2.2.toNat 0)), (22, .own 18), (23, .int .i64 (st1.2.2.length : Int)), (24, .int .i64 st2.2.2.2), (29, .int .i64 s.2.1), (30, .int .i64 st3.2.2.2)] [(1, .box 24 [.int .i64 s.1, .int .i64 s.2.1, .sl (.sl (.int .i64)) s.2.2.1, .sl (.sl (.int .i64)) s.2.2.2]), (12, .arr 25 (.sl (.int .i64)) (st3.1.set ((s.2.2.1.getD (st1.2.2.getD st2.2.2.2.toNat 0).toNat []).getD st3.2.2.2.toNat 0).toNat ((st3.1.getD (st1.2.2.getD st2.2.2.2.toNat 0).toNat []) ++ [st3.2.2.2]))), (15, .arr 4 .bool (st3.2.1.set ((s.2.2.1.getD (st1.2.2.getD st2.2.2.2.toNat 0).toNat []).getD st3.2.2.2.toNat 0).toNat true)), (18, .arr 3 (.int .i64) st1.2.2), (64, .arr 3 (.int .i64) st3.2.2.1)] ?_
              refine AW.ops ?_
              obtain ⟨c44, h⟩ := ck_some.1 h
              refine zA [(1, .bp 1 0), (2, .own 12), (3, .own 15), (5, .own 64), (7, .int .i64 (st1.2.2.getD st2.2.2.2.toNat 0)), (22, .own 18), (23, .int .i64 (st1.2.2.length : Int)), (24, .int .i64 st2.2.2.2), (29, .int .i64 s.2.1), (30, .int .i64 st3.2.2.2)] [(1, .box 24 [.int .i64 s.1, .int .i64 s.2.1, .sl (.sl (.int .i64)) s.2.2.1, .sl (.sl (.int .i64)) s.2.2.2]), (12, .arr 25 (.sl (.int .i64)) (st3.1.set ((s.2.2.1.getD (st1.2.2.getD st2.2.2.2.toNat 0).toNat []).getD st3.2.2.2.toNat 0).toNat ((st3.1.getD (st1.2.2.getD st2.2.2.2.toNat 0).toNat []) ++ [st3.2.2.2]))), (15, .arr 4 .bool (st3.2.1.set ((s.2.2.1.getD (st1.2.2.getD st2.2.2.2.toNat 0).toNat []).getD st3.2.2.2.toNat 0).toNat true)), (18, .arr 3 (.int .i64) st1.2.2), (64, .arr 3 (.int .i64) (st3.2.2.1 ++ [((s.2.2.1.getD (st1.2.2.getD st2.2.2.2.toNat 0).toNat []).getD st3.2.2.2.toNat 0)]))] ?_
              refine ablock_n ?_
              refine athen_n ?_
              refine AW.ops ?_
              obtain ⟨c45, h⟩ := ck_some.1 h
              refine zA [(1, .bp 1 0), (2, .own 12), (3, .own 15), (5, .own 64), (7, .int .i64 (st1.2.2.getD st2.2.2.2.toNat 0)), (22, .own 18), (23, .int .i64 (st1.2.2.length : Int)), (24, .int .i64 st2.2.2.2), (29, .int .i64 s.2.1), (30, .int .i64 (st3.2.2.2 + 1))] [(1, .box 24 [.int .i64 s.1, .int .i64 s.2.1, .sl (.sl (.int .i64)) s.2.2.1, .sl (.sl (.int .i64)) s.2.2.2]), (12, .arr 25 (.sl (.int .i64)) (st3.1.set ((s.2.2.1.getD (st1.2.2.getD st2.2.2.2.toNat 0).toNat []).getD st3.2.2.2.toNat 0).toNat ((st3.1.getD (st1.2.2.getD st2.2.2.2.toNat 0).toNat []) ++ [st3.2.2.2]))), (15, .arr 4 .bool (st3.2.1.set ((s.2.2.1.getD (st1.2.2.getD st2.2.2.2.toNat 0).toNat []).getD st3.2.2.2.toNat 0).toNat true)), (18, .arr 3 (.int .i64) st1.2.2), (64, .arr 3 (.int .i64) (st3.2.2.1 ++ [((s.2.2.1.getD (st1.2.2.getD st2.2.2.2.toNat 0).toNat []).getD st3.2.2.2.toNat 0)]))] ?_
              obtain rfl := Option.some.inj h
              exact ⟨_, rfl, zL [] [] []⟩
             ·refine zm ?_
              refine athen_n ?_
              refine AW.ops ?_
              obtain ⟨c46, h⟩ := ck_some.1 h
              refine zA [(1, .bp 1 0), (2, .own 12), (3, .own 15), (5, .own 64), (7, .int .i64 (st1.2.2.getD st2.2.2.2.toNat 0)), (22, .own 18), (23, .int .i64 (st1.2.2.length : Int)), (24, .int .i64 st2.2.2.2), (29, .int .i64 s.2.1), (30, .int .i64 (st3.2.2.2 + 1))] [(1, .box 24 [.int .i64 s.1, .int .i64 s.2.1, .sl (.sl (.int .i64)) s.2.2.1, .sl (.sl (.int .i64)) s.2.2.2]), (12, .arr 25 (.sl (.int .i64)) st3.1), (15, .arr 4 .bool st3.2.1), (18, .arr 3 (.int .i64) st1.2.2), (64, .arr 3 (.int .i64) st3.2.2.1)] ?_
              obtain rfl := Option.some.inj h
              exact ⟨_, rfl, zL [] [] []⟩
            ·refine AW.exit ?_
             refine athen_e ?_
             obtain rfl := Option.some.inj h
             rw [← hd25 _ rfl] at ho24
             have h := ho24
             refine athen_e ?_
             refine ablock_s ?_
             refine ablock_n ?_
             refine athen_n ?_
             exact AW.weaken (zL [] [] []) (hk_linealref01_ways_k3 _ h)
         ·refine AW.exit ?_
          refine athen_e ?_
          obtain rfl := Option.some.inj h
          rw [← hd16 _ rfl] at ho15
          have h := ho15
          refine athen_e ?_
          refine ablock_s ?_
          refine athen_n ?_
          exact AW.weaken (zL [] [] []) (hk_linealref01_ways_k2 _ h)
      ·refine AW.exit ?_
       refine athen_e ?_
       obtain rfl := Option.some.inj h
       rw [← hd10 _ rfl] at ho9
       have h := ho9
       refine athen_e ?_
       refine ablock_s ?_
       refine athen_n ?_
       exact AW.weaken (zL [] [] []) (hk_linealref01_ways_k1 _ h)

theorem hc_linealref01_reached (s : Int × Int × (List (List Int)) × (List (List Int))) {r : (List Int)} (h : linealref01_reached s = some r) : HC Try.prog 74 [] [.agg [.int .i64 s.1, .int .i64 s.2.1, .sl (.sl (.int .i64)) s.2.2.1, .sl (.sl (.int .i64)) s.2.2.2]] [(2000, .arr 3 (.int .i64) r)] (.own 2000) := by
 unfold linealref01_reached at h
 refine zH Try.func74 [.tmp 2] 27 ?_
 refine zo ?_
 refine zB [(1, .bp 1 0)] [(1, .box 24 [.int .i64 s.1, .int .i64 s.2.1, .sl (.sl (.int .i64)) s.2.2.1, .sl (.sl (.int .i64)) s.2.2.2])] ?_
 refine zo ?_
 refine zB [(1, .bp 1 0), (3, .cv (.slice none 0 0))] [(1, .box 24 [.int .i64 s.1, .int .i64 s.2.1, .sl (.sl (.int .i64)) s.2.2.1, .sl (.sl (.int .i64)) s.2.2.2])] ?_
 refine zo ?_
 refine zS 1 [(3, .cv (.slice none 0 0)), (9, .agg [.int .i64 s.1, .int .i64 s.2.1, .sl (.sl (.int .i64)) s.2.2.1, .sl (.sl (.int .i64)) s.2.2.2])] [] ?_
 obtain ⟨v0, hv1, h⟩ := Option.bind_eq_some_iff.1 h
 refine zC [] [] (hc_linealref01_ways s hv1) [(3, .cv (.slice none 0 0)), (10, .tup [.own 20000, .own 20001])] [(20000, .arr 25 (.sl (.int .i64)) v0.1), (20001, .arr 4 .bool v0.2)] ?_
 refine zB [(3, .cv (.slice none 0 0)), (5, .own 20001)] [(20001, .arr 4 .bool v0.2)] ?_
 refine AW.have1 (fun b1 : (List Int) => linealref01_reached_k1 b1 = some r) (fun b1 => ⟨fr [(3, .own 24)], hpGet [(24, .arr 3 (.int .i64) b1)], gt⟩) (fun b1 h => ?_) (fun hk_linealref01_reached_k1 => ?_)
 ·as_aux_lemma =>
   unfold linealref01_reached_k1 at h
   refine zo ?_
   refine zB [(2, .own 24)] [(24, .arr 3 (.int .i64) b1)] ?_
   refine AW.ret ?_
   obtain rfl := Option.some.inj h
   exact zR [] [] [(2000, 24)]
 ·refine AW.seq ?_
  refine zo ?_
  refine zB [(3, .cv (.slice none 0 0)), (13, .own 20001), (14, .int .i64 (v0.2.length : Int)), (15, .int .i64 0)] [(20001, .arr 4 .bool v0.2)] ?_
  refine AW.block ?_
  obtain ⟨rv6, hw2, ho3⟩ := Option.bind_eq_some_iff.1 h
  refine AW.loopO (linealref01_reached_b1 v0) (fun st1 => ⟨fr [(3, .own 24), (13, .own 20001), (14, .int .i64 (v0.2.length : Int)), (15, .int .i64 st1.2)], hpGet [(24, .arr 3 (.int .i64) st1.1), (20001, .arr 4 .bool v0.2)], gt⟩) ([], 0) hw2 (zL [] [24] []) ?_
  as_aux_lemma =>
   intro st1 x5 h hd4
   unfold linealref01_reached_b1 at h
   refine zo ?_
   refine zB [(3, .own 24), (13, .own 20001), (14, .int .i64 (v0.2.length : Int)), (15, .int .i64 st1.2), (16, .bool (decide (st1.2 < (v0.2.length : Int))))] [(24, .arr 3 (.int .i64) st1.1), (20001, .arr 4 .bool v0.2)] ?_
   refine AW.seq ?_
   refine zQ h (fun hb7 h => ?_) (fun hb7 h => ?_)
   ·refine zk ?_
    refine AW.seq ?_
    refine AW.block ?_
    refine zo ?_
    obtain ⟨c8, h⟩ := ck_some.1 h
    obtain ⟨c9, h⟩ := ck_some.1 h
    refine zB [(3, .own 24), (6, .int .i64 st1.2), (7, .bool (v0.2.getD st1.2.toNat false)), (13, .own 20001), (14, .int .i64 (v0.2.length : Int)), (15, .int .i64 st1.2)] [(24, .arr 3 (.int .i64) st1.1), (20001, .arr 4 .bool v0.2)] ?_
    refine zo ?_
    refine zB [(3, .own 24), (6, .int .i64 st1.2), (13, .own 20001), (14, .int .i64 (v0.2.length : Int)), (15, .int .i64 st1.2), (20, .bool (v0.2.getD st1.2.toNat false))] [(24, .arr 3 (.int .i64) st1.1), (20001, .arr 4 .bool v0.2)] ?_
    refine zQ h (fun hb10 h => ?_) (fun hb10 h => ?_)
    ·refine AW.ops ?_
     obtain ⟨c11, h⟩ := ck_some.1 h
     refine zA [(3, .own 24), (13, .own 20001), (14, .int .i64 (v0.2.length : Int)), (15, .int .i64 st1.2)] [(24, .arr 3 (.int .i64) (st1.1 ++ [st1.2])), (20001, .arr 4 .bool v0.2)] ?_
     refine ablock_n ?_
     refine athen_n ?_
     refine AW.ops ?_
     obtain ⟨c12, h⟩ := ck_some.1 h
     refine zA [(3, .own 24), (13, .own 20001), (14, .int .i64 (v0.2.length : Int)), (15, .int .i64 (st1.2 + 1))] [(24, .arr 3 (.int .i64) (st1.1 ++ [st1.2])), (20001, .arr 4 .bool v0.2)] ?_
     obtain rfl := Option.some.inj h
     exact ⟨_, rfl, zL [] [] []⟩
    ·refine zm ?_
     refine athen_n ?_
     refine AW.ops ?_
     obtain ⟨c13, h⟩ := ck_some.1 h
     refine zA [(3, .own 24), (13, .own 20001), (14, .int .i64 (v0.2.length : Int)), (15, .int .i64 (st1.2 + 1))] [(24, .arr 3 (.int .i64) st1.1), (20001, .arr 4 .bool v0.2)] ?_
     obtain rfl := Option.some.inj h
     exact ⟨_, rfl, zL [] [] []⟩
   ·refine AW.exit ?_
    refine athen_e ?_
    obtain rfl := Option.some.inj h
    rw [← hd4 _ rfl] at ho3
    have h := ho3
    refine athen_e ?_
    refine ablock_s ?_
    refine athen_n ?_
    exact AW.weaken (zL [] [] []) (hk_linealref01_reached_k1 _ h)

theorem hc_linealref01_classes (s : Int × Int × (List (List Int)) × (List (List Int))) {r : (List Int)} (h : linealref01_classes s = some r) : HC Try.prog 72 [] [.agg [.int .i64 s.1, .int .i64 s.2.1, .sl (.sl (.int .i64)) s.2.2.1, .sl (.sl (.int .i64)) s.2.2.2]] [(2000, .arr 3 (.int .i64) r)] (.own 2000) := by
 unfold linealref01_classes at h
 refine zH Try.func72 [.tmp 2] 37 ?_
 refine zo ?_
 refine zB [(1, .bp 1 0)] [(1, .box 24 [.int .i64 s.1, .int .i64 s.2.1, .sl (.sl (.int .i64)) s.2.2.1, .sl (.sl (.int .i64)) s.2.2.2])] ?_
 refine zo ?_
 refine zS 2 [(1, .bp 1 0), (8, .agg [.int .i64 s.1, .int .i64 s.2.1, .sl (.sl (.int .i64)) s.2.2.1, .sl (.sl (.int .i64)) s.2.2.2]), (9, .agg [.int .i64 s.1, .int .i64 s.2.1, .sl (.sl (.int .i64)) s.2.2.1, .sl (.sl (.int .i64)) s.2.2.2])] [(1, .box 24 [.int .i64 s.1, .int .i64 s.2.1, .sl (.sl (.int .i64)) s.2.2.1, .sl (.sl (.int .i64)) s.2.2.2])] ?_
 obtain ⟨v0, hv1, h⟩ := Option.bind_eq_some_iff.1 h
 refine zC [] [] (hc_linealref01_far s s hv1) [(1, .bp 1 0), (10, .sl (.sl (.int .i64)) v0)] [(1, .box 24 [.int .i64 s.1, .int .i64 s.2.1, .sl (.sl (.int .i64)) s.2.2.1, .sl (.sl (.int .i64)) s.2.2.2])] ?_
 refine zB [(1, .bp 1 0), (3, .sl (.sl (.int .i64)) v0)] [(1, .box 24 [.int .i64 s.1, .int .i64 s.2.1, .sl (.sl (.int .i64)) s.2.2.1, .sl (.sl (.int .i64)) s.2.2.2])] ?_
 refine zo ?_
 refine zB [(1, .bp 1 0), (3, .sl (.sl (.int .i64)) v0), (4, .cv (.slice none 0 0))] [(1, .box 24 [.int .i64 s.1, .int .i64 s.2.1, .sl (.sl (.int .i64)) s.2.2.1, .sl (.sl (.int .i64)) s.2.2.2])] ?_
 refine AW.have1 (fun b3_3 : (List Int) => linealref01_classes_k1 b3_3 = some r) (fun b3_3 => ⟨fr [(4, .own 34)], hpGet [(34, .arr 3 (.int .i64) b3_3)], gt⟩) (fun b3_3 h => ?_) (fun hk_linealref01_classes_k1 => ?_)
 ·as_aux_lemma =>
   unfold linealref01_classes_k1 at h
   refine zo ?_
   refine zB [(2, .own 34)] [(34, .arr 3 (.int .i64) b3_3)] ?_
   refine AW.ret ?_
   obtain rfl := Option.some.inj h
   exact zR [] [] [(2000, 34)]
 ·refine AW.seq ?_
  refine zo ?_
  refine zB [(3, .sl (.sl (.int .i64)) v0), (4, .cv (.slice none 0 0)), (12, .int .i64 s.1), (13, .int .i64 0)] [] ?_
  refine AW.block ?_
  obtain ⟨rv6, hw2, ho3⟩ := Option.bind_eq_some_iff.1 h
  refine AW.loopO (linealref01_classes_b1 s v0) (fun st1 => ⟨fr [(3, .sl (.sl (.int .i64)) v0), (4, .own 34), (12, .int .i64 s.1), (13, .int .i64 st1.2)], hpGet [(34, .arr 3 (.int .i64) st1.1)], gt⟩) ([], 0) hw2 (zL [] [34] []) ?_
  as_aux_lemma =>
   intro st1 x5 h hd4
   unfold linealref01_classes_b1 at h
   refine zo ?_
   refine zB [(3, .sl (.sl (.int .i64)) v0), (4, .own 34), (12, .int .i64 s.1), (13, .int .i64 st1.2), (14, .bool (decide (st1.2 < s.1)))] [(34, .arr 3 (.int .i64) st1.1)] ?_
   refine AW.seq ?_
   refine zQ h (fun hb7 h => ?_) (fun hb7 h => ?_)
   ·refine zk ?_
    refine AW.have1 (fun b3_2 : (List Int) => linealref01_classes_k2 st1 b3_2 = some x5) (fun b3_2 => ⟨fr [(3, .sl (.sl (.int .i64)) v0), (4, .own 34), (12, .int .i64 s.1), (13, .int .i64 st1.2)], hpGet [(34, .arr 3 (.int .i64) b3_2)], gt⟩) (fun b3_2 h => ?_) (fun hk_linealref01_classes_k2 => ?_)
    ·as_aux_lemma =>
      unfold linealref01_classes_k2 at h
      refine AW.ops ?_
      obtain ⟨c8, h⟩ := ck_some.1 h
      refine zA [(3, .sl (.sl (.int .i64)) v0), (4, .own 34), (12, .int .i64 s.1), (13, .int .i64 (st1.2 + 1))] [(34, .arr 3 (.int .i64) b3_2)] ?_
      obtain rfl := Option.some.inj h
      exact ⟨_, rfl, zL [] [] []⟩
    ·refine AW.seq ?_
     refine AW.block ?_
     refine zo ?_
     refine zB [(3, .sl (.sl (.int .i64)) v0), (4, .own 34), (5, .int .i64 st1.2), (12, .int .i64 s.1), (13, .int .i64 st1.2)] [(34, .arr 3 (.int .i64) st1.1)] ?_
     refine zo ?_
     refine zB [(3, .sl (.sl (.int .i64)) v0), (4, .own 34), (5, .int .i64 st1.2), (6, .int .i64 st1.2), (12, .int .i64 s.1), (13, .int .i64 st1.2)] [(34, .arr 3 (.int .i64) st1.1)] ?_
     refine AW.have1 (fun b3 : Int => linealref01_classes_k3 st1 b3 = some x5) (fun b3 => ⟨fr [(3, .sl (.sl (.int .i64)) v0), (4, .own 34), (6, .int .i64 b3), (12, .int .i64 s.1), (13, .int .i64 st1.2)], hpGet [(34, .arr 3 (.int .i64) st1.1)], gt⟩) (fun b3 h => ?_) (fun hk_linealref01_classes_k3 => ?_)
     ·as_aux_lemma =>
       unfold linealref01_classes_k3 at h
       refine AW.ops ?_
       obtain ⟨c9, h⟩ := ck_some.1 h
       refine zA [(3, .sl (.sl (.int .i64)) v0), (4, .own 34), (12, .int .i64 s.1), (13, .int .i64 st1.2)] [(34, .arr 3 (.int .i64) (st1.1 ++ [b3]))] ?_
       refine ablock_n ?_
       refine athen_n ?_
       exact AW.weaken (zL [] [] []) (hk_linealref01_classes_k2 _ h)
     ·refine AW.seq ?_
      refine zo ?_
      refine zB [(3, .sl (.sl (.int .i64)) v0), (4, .own 34), (5, .int .i64 st1.2), (6, .int .i64 st1.2), (7, .int .i64 st1.2), (12, .int .i64 s.1), (13, .int .i64 st1.2)] [(34, .arr 3 (.int .i64) st1.1)] ?_
      refine AW.block ?_
      obtain ⟨rv14, hw10, ho11⟩ := Option.bind_eq_some_iff.1 h
      refine AW.loopO (linealref01_classes_b2 v0 st1) (fun st2 => ⟨fr [(3, .sl (.sl (.int .i64)) v0), (4, .own 34), (5, .int .i64 st1.2), (6, .int .i64 st2.1), (7, .int .i64 st2.2), (12, .int .i64 s.1), (13, .int .i64 st1.2)], hpGet [(34, .arr 3 (.int .i64) st1.1)], gt⟩) (st1.2, st1.2) hw10 (zL [] [] []) ?_
      as_aux_lemma =>
       intro st2 x13 h hd12
       unfold linealref01_classes_b2 at h
       refine AW.seq ?_
       refine zo ?_
       refine zB [(3, .sl (.sl (.int .i64)) v0), (4, .own 34), (5, .int .i64 st1.2), (6, .int .i64 st2.1), (7, .int .i64 st2.2), (12, .int .i64 s.1), (13, .int .i64 st1.2), (19, .bool (decide (0 ≤ st2.2)))] [(34, .arr 3 (.int .i64) st1.1)] ?_
       refine zQ h (fun hb15 h => ?_) (fun hb15 h => ?_)
       ·refine zk ?_
        refine AW.seq ?_
        refine AW.block ?_
        refine zo ?_
        obtain ⟨c16, h⟩ := ck_some.1 h
        obtain ⟨c17, h⟩ := ck_some.1 h
        refine zS 5 [(3, .sl (.sl (.int .i64)) v0), (4, .own 34), (5, .int .i64 st1.2), (6, .int .i64 st2.1), (7, .int .i64 st2.2), (12, .int .i64 s.1), (13, .int .i64 st1.2), (25, .sl (.int .i64) (v0.getD st1.2.toNat [])), (26, .int .i64 st2.2)] [(34, .arr 3 (.int .i64) st1.1)] ?_
        obtain ⟨c18, h⟩ := ck_some.1 h
        obtain ⟨c19, h⟩ := ck_some.1 h
        refine zB [(3, .sl (.sl (.int .i64)) v0), (4, .own 34), (5, .int .i64 st1.2), (6, .int .i64 st2.1), (7, .int .i64 st2.2), (12, .int .i64 s.1), (13, .int .i64 st1.2), (29, .bool (decide (((v0.getD st1.2.toNat []).getD st2.2.toNat 0) = 0)))] [(34, .arr 3 (.int .i64) st1.1)] ?_
        refine zQ h (fun hb20 h => ?_) (fun hb20 h => ?_)
        ·refine AW.ops ?_
         refine zA [(3, .sl (.sl (.int .i64)) v0), (4, .own 34), (5, .int .i64 st1.2), (6, .int .i64 st2.2), (7, .int .i64 st2.2), (12, .int .i64 s.1), (13, .int .i64 st1.2)] [(34, .arr 3 (.int .i64) st1.1)] ?_
         refine ablock_n ?_
         refine athen_n ?_
         refine AW.ops ?_
         obtain ⟨c21, h⟩ := ck_some.1 h
         refine zA [(3, .sl (.sl (.int .i64)) v0), (4, .own 34), (5, .int .i64 st1.2), (6, .int .i64 st2.2), (7, .int .i64 (st2.2 - 1)), (12, .int .i64 s.1), (13, .int .i64 st1.2)] [(34, .arr 3 (.int .i64) st1.1)] ?_
         obtain rfl := Option.some.inj h
         exact ⟨_, rfl, zL [] [] []⟩
        ·refine zm ?_
         refine athen_n ?_
         refine AW.ops ?_
         obtain ⟨c22, h⟩ := ck_some.1 h
         refine zA [(3, .sl (.sl (.int .i64)) v0), (4, .own 34), (5, .int .i64 st1.2), (6, .int .i64 st2.1), (7, .int .i64 (st2.2 - 1)), (12, .int .i64 s.1), (13, .int .i64 st1.2)] [(34, .arr 3 (.int .i64) st1.1)] ?_
         obtain rfl := Option.some.inj h
         exact ⟨_, rfl, zL [] [] []⟩
       ·refine AW.exit ?_
        refine athen_e ?_
        obtain rfl := Option.some.inj h
        rw [← hd12 _ rfl] at ho11
        have h := ho11
        refine athen_e ?_
        refine ablock_s ?_
        refine athen_n ?_
        exact AW.weaken (zL [] [] []) (hk_linealref01_classes_k3 _ h)
   ·refine AW.exit ?_
    refine athen_e ?_
    obtain rfl := Option.some.inj h
    rw [← hd4 _ rfl] at ho3
    have h := ho3
    refine athen_e ?_
    refine ablock_s ?_
    refine athen_n ?_
    exact AW.weaken (zL [] [] []) (hk_linealref01_classes_k1 _ h)

theorem hc_linealref01_Reached (s : Int × Int × (List (List Int)) × (List (List Int))) {r : (List Int) × Int} (h : linealref01_Reached s = some r) : HC Try.prog 32 [] [.agg [.int .i64 s.1, .int .i64 s.2.1, .sl (.sl (.int .i64)) s.2.2.1, .sl (.sl (.int .i64)) s.2.2.2]] [(2000, .arr 3 (.int .i64) r.1)] (.tup [.own 2000, .int .i64 r.2]) := by
 unfold linealref01_Reached at h
 refine zH Try.func32 [.tmp 2, .tmp 3] 9 ?_
 refine zo ?_
 refine zB [(1, .bp 1 0)] [(1, .box 24 [.int .i64 s.1, .int .i64 s.2.1, .sl (.sl (.int .i64)) s.2.2.1, .sl (.sl (.int .i64)) s.2.2.2])] ?_
 refine AW.seq ?_
 refine zo ?_
 refine zS 1 [(1, .bp 1 0), (4, .agg [.int .i64 s.1, .int .i64 s.2.1, .sl (.sl (.int .i64)) s.2.2.1, .sl (.sl (.int .i64)) s.2.2.2])] [(1, .box 24 [.int .i64 s.1, .int .i64 s.2.1, .sl (.sl (.int .i64)) s.2.2.1, .sl (.sl (.int .i64)) s.2.2.2])] ?_
 obtain ⟨v0, hv1, h⟩ := Option.bind_eq_some_iff.1 h
 refine zC [] [] (hc_linealref01_Valid s hv1) [(1, .bp 1 0), (5, .bool v0)] [(1, .box 24 [.int .i64 s.1, .int .i64 s.2.1, .sl (.sl (.int .i64)) s.2.2.1, .sl (.sl (.int .i64)) s.2.2.2])] ?_
 refine zB [(1, .bp 1 0), (6, .bool (!v0))] [(1, .box 24 [.int .i64 s.1, .int .i64 s.2.1, .sl (.sl (.int .i64)) s.2.2.1, .sl (.sl (.int .i64)) s.2.2.2])] ?_
 refine zQ h (fun hb2 h => ?_) (fun hb2 h => ?_)
 ·refine zo ?_
  refine zB [(2, .cv (.slice none 0 0)), (3, .int .i64 10)] [] ?_
  refine zr ?_
  obtain rfl := Option.some.inj h
  exact zR [] [2000] []
 ·refine zk ?_
  refine zo ?_
  refine zS 1 [(7, .agg [.int .i64 s.1, .int .i64 s.2.1, .sl (.sl (.int .i64)) s.2.2.1, .sl (.sl (.int .i64)) s.2.2.2])] [] ?_
  obtain ⟨v0_2, hv3, h⟩ := Option.bind_eq_some_iff.1 h
  refine zC [] [] (hc_linealref01_reached s hv3) [(8, .own 18000)] [(18000, .arr 3 (.int .i64) v0_2)] ?_
  refine zB [(2, .own 18000), (3, .int .i64 0)] [(18000, .arr 3 (.int .i64) v0_2)] ?_
  refine AW.ret ?_
  obtain rfl := Option.some.inj h
  exact zR [] [] [(2000, 18000)]

theorem hc_linealref01_Way (s : Int × Int × (List (List Int)) × (List (List Int))) (to0 : Int) {r : (List Int) × Int} (h : linealref01_Way s to0 = some r) : HC Try.prog 34 [] [.agg [.int .i64 s.1, .int .i64 s.2.1, .sl (.sl (.int .i64)) s.2.2.1, .sl (.sl (.int .i64)) s.2.2.2], .int .i64 to0] [] (.tup [.sl (.int .i64) r.1, .int .i64 r.2]) := by
 unfold linealref01_Way at h
 refine zH Try.func34 [.tmp 4, .tmp 5] 30 ?_
 refine zo ?_
 refine zB [(1, .int .i64 to0), (2, .bp 2 0)] [(2, .box 24 [.int .i64 s.1, .int .i64 s.2.1, .sl (.sl (.int .i64)) s.2.2.1, .sl (.sl (.int .i64)) s.2.2.2])] ?_
 refine AW.seq ?_
 refine zo ?_
 refine zS 3 [(1, .int .i64 to0), (2, .bp 2 0), (9, .agg [.int .i64 s.1, .int .i64 s.2.1, .sl (.sl (.int .i64)) s.2.2.1, .sl (.sl (.int .i64)) s.2.2.2]), (10, .int .i64 to0), (11, .int .i64 to0)] [(2, .box 24 [.int .i64 s.1, .int .i64 s.2.1, .sl (.sl (.int .i64)) s.2.2.1, .sl (.sl (.int .i64)) s.2.2.2])] ?_
 obtain ⟨v0, hv1, h⟩ := Option.bind_eq_some_iff.1 h
 refine zC [] [] (hc_linealref01_asked s to0 to0 hv1) [(1, .int .i64 to0), (2, .bp 2 0), (12, .int .i64 v0)] [(2, .box 24 [.int .i64 s.1, .int .i64 s.2.1, .sl (.sl (.int .i64)) s.2.2.1, .sl (.sl (.int .i64)) s.2.2.2])] ?_
 refine zB [(1, .int .i64 to0), (2, .bp 2 0), (6, .int .i64 v0)] [(2, .box 24 [.int .i64 s.1, .int .i64 s.2.1, .sl (.sl (.int .i64)) s.2.2.1, .sl (.sl (.int .i64)) s.2.2.2])] ?_
 refine zo ?_
 refine zB [(1, .int .i64 to0), (2, .bp 2 0), (6, .int .i64 v0), (14, .bool (!(decide (v0 = 0))))] [(2, .box 24 [.int .i64 s.1, .int .i64 s.2.1, .sl (.sl (.int .i64)) s.2.2.1, .sl (.sl (.int .i64)) s.2.2.2])] ?_
 refine zQ h (fun hb2 h => ?_) (fun hb2 h => ?_)
 ·refine zo ?_
  refine zB [(4, .cv (.slice none 0 0)), (5, .int .i64 v0)] [] ?_
  refine zr ?_
  obtain rfl := Option.some.inj h
  exact zR [] [] []
 ·refine zk ?_
  refine zo ?_
  refine zS 1 [(1, .int .i64 to0), (17, .agg [.int .i64 s.1, .int .i64 s.2.1, .sl (.sl (.int .i64)) s.2.2.1, .sl (.sl (.int .i64)) s.2.2.2])] [] ?_
  obtain ⟨v0_2, hv3, h⟩ := Option.bind_eq_some_iff.1 h
  refine zC [] [] (hc_linealref01_ways s hv3) [(1, .int .i64 to0), (18, .tup [.own 28000, .own 28001])] [(28000, .arr 25 (.sl (.int .i64)) v0_2.1), (28001, .arr 4 .bool v0_2.2)] ?_
  refine zB [(1, .int .i64 to0), (7, .own 28000), (8, .own 28001)] [(28000, .arr 25 (.sl (.int .i64)) v0_2.1), (28001, .arr 4 .bool v0_2.2)] ?_
  refine AW.seq ?_
  refine zo ?_
  obtain ⟨c4, h⟩ := ck_some.1 h
  obtain ⟨c5, h⟩ := ck_some.1 h
  refine zB [(1, .int .i64 to0), (7, .own 28000), (25, .bool (!(v0_2.2.getD to0.toNat false)))] [(28000, .arr 25 (.sl (.int .i64)) v0_2.1)] ?_
  refine zQ h (fun hb6 h => ?_) (fun hb6 h => ?_)
  ·refine zo ?_
   refine zB [(4, .cv (.slice none 0 0)), (5, .int .i64 5)] [] ?_
   refine zr ?_
   obtain rfl := Option.some.inj h
   exact zR [] [] []
  ·refine zk ?_
   refine zo ?_
   obtain ⟨c7, h⟩ := ck_some.1 h
   obtain ⟨c8, h⟩ := ck_some.1 h
   refine zS 5 [(4, .sl (.int .i64) (v0_2.1.getD to0.toNat []))] [] ?_
   refine zB [(4, .sl (.int .i64) (v0_2.1.getD to0.toNat [])), (5, .int .i64 0)] [] ?_
   refine AW.ret ?_
   obtain rfl := Option.some.inj h
   exact zR [] [] []

theorem hc_linealref01_number (class0 : List Int) (members : List Int) (a : Int) {r : Int} (h : linealref01_number class0 members a = some r) : HC Try.prog 80 [] [.sl (.int .i64) class0, .sl (.int .i64) members, .int .i64 a] [] (.int .i64 r) := by
 unfold linealref01_number at h
 refine zH Try.func80 [.tmp 6] 27 ?_
 refine zo ?_
 refine zB [(0, .sl (.int .i64) class0), (1, .sl (.int .i64) members), (2, .int .i64 a)] [] ?_
 refine AW.have1 (fun _ : Unit => linealref01_number_k1 = some r) (fun _ => ⟨fr [], hpGet [], gt⟩) (fun _ h => ?_) (fun hk_linealref01_number_k1 => ?_)
 ·as_aux_lemma =>
   unfold linealref01_number_k1 at h
   refine zo ?_
   refine zB [(6, .int .i64 (-1))] [] ?_
   refine AW.ret ?_
   obtain rfl := Option.some.inj h
   exact zR [] [] []
 ·refine AW.seq ?_
  refine zo ?_
  refine zB [(0, .sl (.int .i64) class0), (2, .int .i64 a), (9, .sl (.int .i64) members), (10, .int .i64 (members.length : Int)), (11, .int .i64 0)] [] ?_
  refine AW.block ?_
  obtain ⟨rv5, hw1, ho2⟩ := Option.bind_eq_some_iff.1 h
  refine AW.loopO (linealref01_number_b1 class0 members a) (fun st1 => ⟨fr [(0, .sl (.int .i64) class0), (2, .int .i64 a), (9, .sl (.int .i64) members), (10, .int .i64 (members.length : Int)), (11, .int .i64 st1)], hpGet [], gt⟩) 0 hw1 (zL [] [] []) ?_
  as_aux_lemma =>
   intro st1 x4 h hd3
   unfold linealref01_number_b1 at h
   refine zo ?_
   refine zB [(0, .sl (.int .i64) class0), (2, .int .i64 a), (9, .sl (.int .i64) members), (10, .int .i64 (members.length : Int)), (11, .int .i64 st1), (12, .bool (decide (st1 < (members.length : Int))))] [] ?_
   refine AW.seq ?_
   refine zQ h (fun hb6 h => ?_) (fun hb6 h => ?_)
   ·refine zk ?_
    refine AW.seq ?_
    refine AW.block ?_
    refine zo ?_
    obtain ⟨c7, h⟩ := ck_some.1 h
    obtain ⟨c8, h⟩ := ck_some.1 h
    refine zB [(0, .sl (.int .i64) class0), (2, .int .i64 a), (7, .int .i64 st1), (8, .int .i64 (members.getD st1.toNat 0)), (9, .sl (.int .i64) members), (10, .int .i64 (members.length : Int)), (11, .int .i64 st1)] [] ?_
    refine AW.seq ?_
    refine AW.draw tab_ok mixed_ok [] [] (by decide) (lex_fast (by kernel_rfl)) ?_
    as_aux_lemma =>
     obtain ⟨c10, h⟩ := ck_some.1 h
     obtain ⟨c11, h⟩ := ck_some.1 h
     refine adops_cut 6 (fun K' hK9 => ?_)
     try dsimp only [List.drop_succ_cons, List.drop_zero, List.take_succ_cons, List.take_zero]
     simp only [go_sem, hb6]
     repeat with_reducible refine zN ?_
     refine hK9 _ ?_
     as_aux_lemma =>
      obtain ⟨c13, h⟩ := ck_some.1 h
      obtain ⟨c14, h⟩ := ck_some.1 h
      refine adops_cut 3 (fun K' hK12 => ?_)
      try dsimp only [List.drop_succ_cons, List.drop_zero, List.take_succ_cons, List.take_zero]
      simp only [go_sem, hb6]
      repeat with_reducible refine zN ?_
      refine hK12 _ ?_
      refine adops_nil ?_
      refine athen_n ?_
      refine zV [(0, .sl (.int .i64) class0), (2, .int .i64 a), (7, .int .i64 st1), (9, .sl (.int .i64) members), (10, .int .i64 (members.length : Int)), (11, .int .i64 st1), (24, .bool (decide ((class0.getD a.toNat 0) = (class0.getD (members.getD st1.toNat 0).toNat 0))))] [] gt ?_
      as_aux_lemma =>
       refine zQ h (fun hb15 h => ?_) (fun hb15 h => ?_)
       ·refine zo ?_
        refine zB [(6, .int .i64 st1)] [] ?_
        refine AW.ret ?_
        refine ablock_r ?_
        refine athen_r ?_
        obtain rfl := Option.some.inj h
        rw [← hd3 _ rfl] at ho2
        have h := ho2
        try simp only at h
        refine athen_r ?_
        refine ablock_r ?_
        refine athen_r ?_
        obtain rfl := Option.some.inj h
        exact zR [] [] []
       ·refine zm ?_
        refine athen_n ?_
        refine AW.ops ?_
        obtain ⟨c16, h⟩ := ck_some.1 h
        refine zA [(0, .sl (.int .i64) class0), (2, .int .i64 a), (9, .sl (.int .i64) members), (10, .int .i64 (members.length : Int)), (11, .int .i64 (st1 + 1))] [] ?_
        obtain rfl := Option.some.inj h
        exact ⟨_, rfl, zL [] [] []⟩
   ·refine AW.exit ?_
    refine athen_e ?_
    obtain rfl := Option.some.inj h
    rw [← hd3 _ rfl] at ho2
    have h := ho2
    try simp only at h
    refine athen_e ?_
    refine ablock_s ?_
    refine athen_n ?_
    exact AW.weaken (zL [] [] []) (hk_linealref01_number_k1 () h)

end Go.Proofs.Ytcgflignbhmoaaa
