/-
  Made by wip/tool/dc.py out of the print of the program: contracts.
-/
import Derived.Test.YtfmokmhphfdbpaaQp
import Derived.Test.YtfmokmhphfdbpaaShs
import Derived.Test.YtfmokmhphfdbpaaMgc1
import Derived.Test.YtfmokmhphfdbpaaMgc2
import Derived.Test.YtfmokmhphfdbpaaMgc3
import Derived.Test.YtfmokmhphfdbpaaMgc4
namespace Go.Proofs.Ytfmokmhphfdbpaa
open Go.RowKit

set_option linter.unusedSimpArgs false
set_option linter.unusedVariables false
set_option linter.constructorNameAsVariable false

set_option maxRecDepth 100000
set_option maxHeartbeats 2000000

theorem hc_linealref01_ways (s : Int × Int × (List (List Int)) × (List (List Int))) {r : (List (List Int)) × (List Bool)} (h : linealref01_ways s = some r) : HC Try.prog 76 [] [.agg [.int .i64 s.1, .int .i64 s.2.1, .sl (.sl (.int .i64)) s.2.2.1, .sl (.sl (.int .i64)) s.2.2.2]] [(2000, .arr 25 (.sl (.int .i64)) r.1), (2001, .arr 4 .bool r.2)] (.tup [.own 2000, .own 2001]) := by
 unfold linealref01_ways at h
 refine zH Try.func76 [.tmp 2, .tmp 3] 70 ?_
 refine zo ?_
 refine zB [(1, .bp 1 0)] [(1, .box 24 [.int .i64 s.1, .int .i64 s.2.1, .sl (.sl (.int .i64)) s.2.2.1, .sl (.sl (.int .i64)) s.2.2.2])] ?_
 refine AW.seq ?_
 refine AW.draw tab_ok mixed_ok [(2, [12]), (5, [15])] [(0, [1]), (1, [1]), (2, [12]), (3, [1]), (4, [1]), (5, [15]), (6, [12])] (by decide) (by kernel_rfl) ?_
 obtain ⟨c2, h⟩ := ck_some.1 h
 obtain ⟨c3, h⟩ := ck_some.1 h
 obtain ⟨c4, h⟩ := ck_some.1 h
 obtain ⟨c5, h⟩ := ck_some.1 h
 refine adops_cut 6 (fun K' hK1 => ?_)
 try dsimp only [List.drop_succ_cons, List.drop_zero, List.take_succ_cons, List.take_zero]
 simp only [go_sem]
 repeat with_reducible refine zN ?_
 refine hK1 _ ?_
 refine adops_cut 2 (fun K' hK6 => ?_)
 try dsimp only [List.drop_succ_cons, List.drop_zero, List.take_succ_cons, List.take_zero]
 simp only [go_sem]
 repeat with_reducible refine zN ?_
 refine hK6 _ ?_
 refine adops_nil ?_
 refine athen_n ?_
 refine zV [(1, .bp 1 0), (2, .own 12), (3, .own 15)] [(1, .box 24 [.int .i64 s.1, .int .i64 s.2.1, .sl (.sl (.int .i64)) s.2.2.1, .sl (.sl (.int .i64)) s.2.2.2]), (12, .arr 25 (.sl (.int .i64)) (List.replicate s.1.toNat ([] : List Int))), (15, .arr 4 .bool (List.replicate s.1.toNat (false : Bool)))] gt ?_
 refine zo ?_
 obtain ⟨c7, h⟩ := ck_some.1 h
 refine zB [(1, .bp 1 0), (2, .own 12), (3, .own 15)] [(1, .box 24 [.int .i64 s.1, .int .i64 s.2.1, .sl (.sl (.int .i64)) s.2.2.1, .sl (.sl (.int .i64)) s.2.2.2]), (12, .arr 25 (.sl (.int .i64)) (List.replicate s.1.toNat ([] : List Int))), (15, .arr 4 .bool ((List.replicate s.1.toNat (false : Bool)).set 0 true))] ?_
 refine zo ?_
 refine zB [(1, .bp 1 0), (2, .own 12), (3, .own 15), (4, .own 18)] [(1, .box 24 [.int .i64 s.1, .int .i64 s.2.1, .sl (.sl (.int .i64)) s.2.2.1, .sl (.sl (.int .i64)) s.2.2.2]), (12, .arr 25 (.sl (.int .i64)) (List.replicate s.1.toNat ([] : List Int))), (15, .arr 4 .bool ((List.replicate s.1.toNat (false : Bool)).set 0 true)), (18, .arr 3 (.int .i64) [0])] ?_
 refine AW.have1 (fun b3_3 : (List (List Int)) × (List Bool) => linealref01_ways_k1 b3_3 = some r) (fun b3_3 => ⟨fr [(2, .own 12), (3, .own 15)], hpGet [(12, .arr 25 (.sl (.int .i64)) b3_3.1), (15, .arr 4 .bool b3_3.2)], gt⟩) (fun b3_3 h => ?_) (fun hk_linealref01_ways_k1 => ?_)
 ·unfold linealref01_ways_k1 at h
  refine zo ?_
  refine zB [(2, .own 12), (3, .own 15)] [(12, .arr 25 (.sl (.int .i64)) b3_3.1), (15, .arr 4 .bool b3_3.2)] ?_
  refine AW.ret ?_
  obtain rfl := Option.some.inj h
  exact zR [] [] [(2000, 12), (2001, 15)]
 ·refine AW.seq ?_
  refine AW.block ?_
  obtain ⟨rv12, hw8, ho9⟩ := Option.bind_eq_some_iff.1 h
  refine AW.loopO (linealref01_ways_b1 s) (fun st1 => ⟨fr [(1, .bp 1 0), (2, .own 12), (3, .own 15), (4, .own 18)], hpGet [(1, .box 24 [.int .i64 s.1, .int .i64 s.2.1, .sl (.sl (.int .i64)) s.2.2.1, .sl (.sl (.int .i64)) s.2.2.2]), (12, .arr 25 (.sl (.int .i64)) st1.1), (15, .arr 4 .bool st1.2.1), (18, .arr 3 (.int .i64) st1.2.2)], gt⟩) ((List.replicate s.1.toNat ([] : List Int)), ((List.replicate s.1.toNat (false : Bool)).set 0 true), [0]) hw8 (zL [] [] []) ?_
  intro st1 x11 h hd10
  unfold linealref01_ways_b1 at h
  refine AW.seq ?_
  refine zo ?_
  refine zB [(1, .bp 1 0), (2, .own 12), (3, .own 15), (4, .own 18), (21, .bool (decide (0 < (st1.2.2.length : Int))))] [(1, .box 24 [.int .i64 s.1, .int .i64 s.2.1, .sl (.sl (.int .i64)) s.2.2.1, .sl (.sl (.int .i64)) s.2.2.2]), (12, .arr 25 (.sl (.int .i64)) st1.1), (15, .arr 4 .bool st1.2.1), (18, .arr 3 (.int .i64) st1.2.2)] ?_
  refine zQ h (fun hb13 h => ?_) (fun hb13 h => ?_)
  ·refine zk ?_
   refine AW.block ?_
   refine zo ?_
   refine zB [(1, .bp 1 0), (2, .own 12), (3, .own 15), (4, .own 18), (5, .cv (.slice none 0 0))] [(1, .box 24 [.int .i64 s.1, .int .i64 s.2.1, .sl (.sl (.int .i64)) s.2.2.1, .sl (.sl (.int .i64)) s.2.2.2]), (12, .arr 25 (.sl (.int .i64)) st1.1), (15, .arr 4 .bool st1.2.1), (18, .arr 3 (.int .i64) st1.2.2)] ?_
   refine AW.have1 (fun b3_2 : (List (List Int)) × (List Bool) × (List Int) => linealref01_ways_k2 b3_2 = some x11) (fun b3_2 => ⟨fr [(1, .bp 1 0), (2, .own 12), (3, .own 15), (5, .own 64)], hpGet [(1, .box 24 [.int .i64 s.1, .int .i64 s.2.1, .sl (.sl (.int .i64)) s.2.2.1, .sl (.sl (.int .i64)) s.2.2.2]), (12, .arr 25 (.sl (.int .i64)) b3_2.1), (15, .arr 4 .bool b3_2.2.1), (64, .arr 3 (.int .i64) b3_2.2.2)], gt⟩) (fun b3_2 h => ?_) (fun hk_linealref01_ways_k2 => ?_)
   ·unfold linealref01_ways_k2 at h
    refine AW.ops ?_
    refine zA [(1, .bp 1 0), (2, .own 12), (3, .own 15), (4, .own 64)] [(1, .box 24 [.int .i64 s.1, .int .i64 s.2.1, .sl (.sl (.int .i64)) s.2.2.1, .sl (.sl (.int .i64)) s.2.2.2]), (12, .arr 25 (.sl (.int .i64)) b3_2.1), (15, .arr 4 .bool b3_2.2.1), (64, .arr 3 (.int .i64) b3_2.2.2)] ?_
    refine ablock_n ?_
    obtain rfl := Option.some.inj h
    exact ⟨_, rfl, zL [] [] [(18, 64)]⟩
   ·refine AW.seq ?_
    refine zo ?_
    refine zB [(1, .bp 1 0), (2, .own 12), (3, .own 15), (5, .cv (.slice none 0 0)), (22, .own 18), (23, .int .i64 (st1.2.2.length : Int)), (24, .int .i64 0)] [(1, .box 24 [.int .i64 s.1, .int .i64 s.2.1, .sl (.sl (.int .i64)) s.2.2.1, .sl (.sl (.int .i64)) s.2.2.2]), (12, .arr 25 (.sl (.int .i64)) st1.1), (15, .arr 4 .bool st1.2.1), (18, .arr 3 (.int .i64) st1.2.2)] ?_
    refine AW.block ?_
    obtain ⟨rv18, hw14, ho15⟩ := Option.bind_eq_some_iff.1 h
    refine AW.loopO (linealref01_ways_b2 s st1) (fun st2 => ⟨fr [(1, .bp 1 0), (2, .own 12), (3, .own 15), (5, .own 64), (22, .own 18), (23, .int .i64 (st1.2.2.length : Int)), (24, .int .i64 st2.2.2.2)], hpGet [(1, .box 24 [.int .i64 s.1, .int .i64 s.2.1, .sl (.sl (.int .i64)) s.2.2.1, .sl (.sl (.int .i64)) s.2.2.2]), (12, .arr 25 (.sl (.int .i64)) st2.1), (15, .arr 4 .bool st2.2.1), (18, .arr 3 (.int .i64) st1.2.2), (64, .arr 3 (.int .i64) st2.2.2.1)], gt⟩) (st1.1, st1.2.1, [], 0) hw14 (zL [] [64] []) ?_
    intro st2 x17 h hd16
    unfold linealref01_ways_b2 at h
    refine zo ?_
    refine zB [(1, .bp 1 0), (2, .own 12), (3, .own 15), (5, .own 64), (22, .own 18), (23, .int .i64 (st1.2.2.length : Int)), (24, .int .i64 st2.2.2.2), (25, .bool (decide (st2.2.2.2 < (st1.2.2.length : Int))))] [(1, .box 24 [.int .i64 s.1, .int .i64 s.2.1, .sl (.sl (.int .i64)) s.2.2.1, .sl (.sl (.int .i64)) s.2.2.2]), (12, .arr 25 (.sl (.int .i64)) st2.1), (15, .arr 4 .bool st2.2.1), (18, .arr 3 (.int .i64) st1.2.2), (64, .arr 3 (.int .i64) st2.2.2.1)] ?_
    refine AW.seq ?_
    refine zQ h (fun hb19 h => ?_) (fun hb19 h => ?_)
    ·refine zk ?_
     refine AW.have1 (fun b3 : (List (List Int)) × (List Bool) × (List Int) => linealref01_ways_k3 st2 b3 = some x17) (fun b3 => ⟨fr [(1, .bp 1 0), (2, .own 12), (3, .own 15), (5, .own 64), (22, .own 18), (23, .int .i64 (st1.2.2.length : Int)), (24, .int .i64 st2.2.2.2)], hpGet [(1, .box 24 [.int .i64 s.1, .int .i64 s.2.1, .sl (.sl (.int .i64)) s.2.2.1, .sl (.sl (.int .i64)) s.2.2.2]), (12, .arr 25 (.sl (.int .i64)) b3.1), (15, .arr 4 .bool b3.2.1), (18, .arr 3 (.int .i64) st1.2.2), (64, .arr 3 (.int .i64) b3.2.2)], gt⟩) (fun b3 h => ?_) (fun hk_linealref01_ways_k3 => ?_)
     ·unfold linealref01_ways_k3 at h
      refine AW.ops ?_
      obtain ⟨c20, h⟩ := ck_some.1 h
      refine zA [(1, .bp 1 0), (2, .own 12), (3, .own 15), (5, .own 64), (22, .own 18), (23, .int .i64 (st1.2.2.length : Int)), (24, .int .i64 (st2.2.2.2 + 1))] [(1, .box 24 [.int .i64 s.1, .int .i64 s.2.1, .sl (.sl (.int .i64)) s.2.2.1, .sl (.sl (.int .i64)) s.2.2.2]), (12, .arr 25 (.sl (.int .i64)) b3.1), (15, .arr 4 .bool b3.2.1), (18, .arr 3 (.int .i64) st1.2.2), (64, .arr 3 (.int .i64) b3.2.2)] ?_
      obtain rfl := Option.some.inj h
      exact ⟨_, rfl, zL [] [] []⟩
     ·refine AW.seq ?_
      refine AW.block ?_
      refine zo ?_
      obtain ⟨c21, h⟩ := ck_some.1 h
      obtain ⟨c22, h⟩ := ck_some.1 h
      refine zB [(1, .bp 1 0), (2, .own 12), (3, .own 15), (5, .own 64), (7, .int .i64 (st1.2.2.getD st2.2.2.2.toNat 0)), (22, .own 18), (23, .int .i64 (st1.2.2.length : Int)), (24, .int .i64 st2.2.2.2)] [(1, .box 24 [.int .i64 s.1, .int .i64 s.2.1, .sl (.sl (.int .i64)) s.2.2.1, .sl (.sl (.int .i64)) s.2.2.2]), (12, .arr 25 (.sl (.int .i64)) st2.1), (15, .arr 4 .bool st2.2.1), (18, .arr 3 (.int .i64) st1.2.2), (64, .arr 3 (.int .i64) st2.2.2.1)] ?_
      refine zo ?_
      refine zB [(1, .bp 1 0), (2, .own 12), (3, .own 15), (5, .own 64), (7, .int .i64 (st1.2.2.getD st2.2.2.2.toNat 0)), (22, .own 18), (23, .int .i64 (st1.2.2.length : Int)), (24, .int .i64 st2.2.2.2), (29, .int .i64 s.2.1), (30, .int .i64 0)] [(1, .box 24 [.int .i64 s.1, .int .i64 s.2.1, .sl (.sl (.int .i64)) s.2.2.1, .sl (.sl (.int .i64)) s.2.2.2]), (12, .arr 25 (.sl (.int .i64)) st2.1), (15, .arr 4 .bool st2.2.1), (18, .arr 3 (.int .i64) st1.2.2), (64, .arr 3 (.int .i64) st2.2.2.1)] ?_
      refine AW.block ?_
      obtain ⟨rv27, hw23, ho24⟩ := Option.bind_eq_some_iff.1 h
      refine AW.loopO (linealref01_ways_b3 s st1 st2) (fun st3 => ⟨fr [(1, .bp 1 0), (2, .own 12), (3, .own 15), (5, .own 64), (7, .int .i64 (st1.2.2.getD st2.2.2.2.toNat 0)), (22, .own 18), (23, .int .i64 (st1.2.2.length : Int)), (24, .int .i64 st2.2.2.2), (29, .int .i64 s.2.1), (30, .int .i64 st3.2.2.2)], hpGet [(1, .box 24 [.int .i64 s.1, .int .i64 s.2.1, .sl (.sl (.int .i64)) s.2.2.1, .sl (.sl (.int .i64)) s.2.2.2]), (12, .arr 25 (.sl (.int .i64)) st3.1), (15, .arr 4 .bool st3.2.1), (18, .arr 3 (.int .i64) st1.2.2), (64, .arr 3 (.int .i64) st3.2.2.1)], gt⟩) (st2.1, st2.2.1, st2.2.2.1, 0) hw23 (zL [] [] []) ?_
      intro st3 x26 h hd25
      unfold linealref01_ways_b3 at h
      refine zo ?_
      refine zB [(1, .bp 1 0), (2, .own 12), (3, .own 15), (5, .own 64), (7, .int .i64 (st1.2.2.getD st2.2.2.2.toNat 0)), (22, .own 18), (23, .int .i64 (st1.2.2.length : Int)), (24, .int .i64 st2.2.2.2), (29, .int .i64 s.2.1), (30, .int .i64 st3.2.2.2), (31, .bool (decide (st3.2.2.2 < s.2.1)))] [(1, .box 24 [.int .i64 s.1, .int .i64 s.2.1, .sl (.sl (.int .i64)) s.2.2.1, .sl (.sl (.int .i64)) s.2.2.2]), (12, .arr 25 (.sl (.int .i64)) st3.1), (15, .arr 4 .bool st3.2.1), (18, .arr 3 (.int .i64) st1.2.2), (64, .arr 3 (.int .i64) st3.2.2.1)] ?_
      refine AW.seq ?_
      refine zQ h (fun hb28 h => ?_) (fun hb28 h => ?_)
      ·refine zk ?_
       refine AW.seq ?_
       refine AW.block ?_
       refine zo ?_
       refine zB [(1, .bp 1 0), (2, .own 12), (3, .own 15), (5, .own 64), (7, .int .i64 (st1.2.2.getD st2.2.2.2.toNat 0)), (8, .int .i64 st3.2.2.2), (22, .own 18), (23, .int .i64 (st1.2.2.length : Int)), (24, .int .i64 st2.2.2.2), (29, .int .i64 s.2.1), (30, .int .i64 st3.2.2.2)] [(1, .box 24 [.int .i64 s.1, .int .i64 s.2.1, .sl (.sl (.int .i64)) s.2.2.1, .sl (.sl (.int .i64)) s.2.2.2]), (12, .arr 25 (.sl (.int .i64)) st3.1), (15, .arr 4 .bool st3.2.1), (18, .arr 3 (.int .i64) st1.2.2), (64, .arr 3 (.int .i64) st3.2.2.1)] ?_
       refine zo ?_
       obtain ⟨c29, h⟩ := ck_some.1 h
       obtain ⟨c30, h⟩ := ck_some.1 h
       obtain ⟨c31, h⟩ := ck_some.1 h
       obtain ⟨c32, h⟩ := ck_some.1 h
       refine zB [(1, .bp 1 0), (2, .own 12), (3, .own 15), (5, .own 64), (7, .int .i64 (st1.2.2.getD st2.2.2.2.toNat 0)), (8, .int .i64 st3.2.2.2), (9, .int .i64 ((s.2.2.1.getD (st1.2.2.getD st2.2.2.2.toNat 0).toNat []).getD st3.2.2.2.toNat 0)), (22, .own 18), (23, .int .i64 (st1.2.2.length : Int)), (24, .int .i64 st2.2.2.2), (29, .int .i64 s.2.1), (30, .int .i64 st3.2.2.2)] [(1, .box 24 [.int .i64 s.1, .int .i64 s.2.1, .sl (.sl (.int .i64)) s.2.2.1, .sl (.sl (.int .i64)) s.2.2.2]), (12, .arr 25 (.sl (.int .i64)) st3.1), (15, .arr 4 .bool st3.2.1), (18, .arr 3 (.int .i64) st1.2.2), (64, .arr 3 (.int .i64) st3.2.2.1)] ?_
       refine zo ?_
       obtain ⟨c33, h⟩ := ck_some.1 h
       obtain ⟨c34, h⟩ := ck_some.1 h
       refine zB [(1, .bp 1 0), (2, .own 12), (3, .own 15), (5, .own 64), (7, .int .i64 (st1.2.2.getD st2.2.2.2.toNat 0)), (8, .int .i64 st3.2.2.2), (9, .int .i64 ((s.2.2.1.getD (st1.2.2.getD st2.2.2.2.toNat 0).toNat []).getD st3.2.2.2.toNat 0)), (22, .own 18), (23, .int .i64 (st1.2.2.length : Int)), (24, .int .i64 st2.2.2.2), (29, .int .i64 s.2.1), (30, .int .i64 st3.2.2.2), (45, .bool (!(st3.2.1.getD ((s.2.2.1.getD (st1.2.2.getD st2.2.2.2.toNat 0).toNat []).getD st3.2.2.2.toNat 0).toNat false)))] [(1, .box 24 [.int .i64 s.1, .int .i64 s.2.1, .sl (.sl (.int .i64)) s.2.2.1, .sl (.sl (.int .i64)) s.2.2.2]), (12, .arr 25 (.sl (.int .i64)) st3.1), (15, .arr 4 .bool st3.2.1), (18, .arr 3 (.int .i64) st1.2.2), (64, .arr 3 (.int .i64) st3.2.2.1)] ?_
       refine zQ h (fun hb35 h => ?_) (fun hb35 h => ?_)
       ·refine zo ?_
        obtain ⟨c36, h⟩ := ck_some.1 h
        obtain ⟨c37, h⟩ := ck_some.1 h
        refine zB [(1, .bp 1 0), (2, .own 12), (3, .own 15), (5, .own 64), (7, .int .i64 (st1.2.2.getD st2.2.2.2.toNat 0)), (8, .int .i64 st3.2.2.2), (9, .int .i64 ((s.2.2.1.getD (st1.2.2.getD st2.2.2.2.toNat 0).toNat []).getD st3.2.2.2.toNat 0)), (22, .own 18), (23, .int .i64 (st1.2.2.length : Int)), (24, .int .i64 st2.2.2.2), (29, .int .i64 s.2.1), (30, .int .i64 st3.2.2.2)] [(1, .box 24 [.int .i64 s.1, .int .i64 s.2.1, .sl (.sl (.int .i64)) s.2.2.1, .sl (.sl (.int .i64)) s.2.2.2]), (12, .arr 25 (.sl (.int .i64)) st3.1), (15, .arr 4 .bool (st3.2.1.set ((s.2.2.1.getD (st1.2.2.getD st2.2.2.2.toNat 0).toNat []).getD st3.2.2.2.toNat 0).toNat true)), (18, .arr 3 (.int .i64) st1.2.2), (64, .arr 3 (.int .i64) st3.2.2.1)] ?_
        refine zo ?_
        obtain ⟨c38, h⟩ := ck_some.1 h
        obtain ⟨c39, h⟩ := ck_some.1 h
        obtain ⟨c40, h⟩ := ck_some.1 h
        obtain ⟨c41, h⟩ := ck_some.1 h
        obtain ⟨c42, h⟩ := ck_some.1 h
        obtain ⟨c43, h⟩ := ck_some.1 h
        refine zB [(1, .bp 1 0), (2, .own 12), (3, .own 15), (5, .own 64), (7, .int .i64 (st1.2.2.getD st2.2.2.2.toNat 0)), (9, .int .i64 ((s.2.2.1.getD (st1.2.2.getD st2.2.2.2.toNat 0).toNat []).getD st3.2.2.2.toNat 0)), (22, .own 18), (23, .int .i64 (st1.2.2.length : Int)), (24, .int .i64 st2.2.2.2), (29, .int .i64 s.2.1), (30, .int .i64 st3.2.2.2)] [(1, .box 24 [.int .i64 s.1, .int .i64 s.2.1, .sl (.sl (.int .i64)) s.2.2.1, .sl (.sl (.int .i64)) s.2.2.2]), (12, .arr 25 (.sl (.int .i64)) (st3.1.set ((s.2.2.1.getD (st1.2.2.getD st2.2.2.2.toNat 0).toNat []).getD st3.2.2.2.toNat 0).toNat ((st3.1.getD (st1.2.2.getD st2.2.2.2.toNat 0).toNat []) ++ [st3.2.2.2]))), (15, .arr 4 .bool (st3.2.1.set ((s.2.2.1.getD (st1.2.2.getD st2.2.2.2.toNat 0).toNat []).getD st3.2.2.2.toNat 0).toNat true)), (18, .arr 3 (.int .i64) st1.2.2), (64, .arr 3 (.int .i64) st3.2.2.1)] ?_
        refine AW.ops ?_
        obtain ⟨c44, h⟩ := ck_some.1 h
        refine zA [(1, .bp 1 0), (2, .own 12), (3, .own 15), (5, .own 64), (7, .int .i64 (st1.2.2.getD st2.2.2.2.toNat 0)), (22, .own 18), (23, .int .i64 (st1.2.2.length : Int)), (24, .int .i64 st2.2.2.2), (29, .int .i64 s.2.1), (30, .int .i64 st3.2.2.2)] [(1, .box 24 [.int .i64 s.1, .int .i64 s.2.1, .sl (.sl (.int .i64)) s.2.2.1, .sl (.sl (.int .i64)) s.2.2.2]), (12, .arr 25 (.sl (.int .i64)) (st3.1.set ((s.2.2.1.getD (st1.2.2.getD st2.2.2.2.toNat 0).toNat []).getD st3.2.2.2.toNat 0).toNat ((st3.1.getD (st1.2.2.getD st2.2.2.2.toNat 0).toNat []) ++ [st3.2.2.2]))), (15, .arr 4 .bool (st3.2.1.set ((s.2.2.1.getD (st1.2.2.getD st2.2.2.2.toNat 0).toNat []).getD st3.2.2.2.toNat 0).toNat true)), (18, .arr 3 (.int .i64) st1.2.2), (64, .arr 3 (.int .i64) (st3.2.2.1 ++ [((s.2.2.1.getD (st1.2.2.getD st2.2.2.2.toNat 0).toNat []).getD st3.2.2.2.toNat 0)]))] ?_
        refine ablock_n ?_
        refine athen_n ?_
        refine AW.ops ?_
        obtain ⟨c45, h⟩ := ck_some.1 h
        refine zA [(1, .bp 1 0), (2, .own 12), (3, .own 15), (5, .own 64), (7, .int .i64 (st1.2.2.getD st2.2.2.2.toNat 0)), (22, .own 18), (23, .int .i64 (st1.2.2.length : Int)), (24, .int .i64 st2.2.2.2), (29, .int .i64 s.2.1), (30, .int .i64 (st3.2.2.2 + 1))] [(1, .box 24 [.int .i64 s.1, .int .i64 s.2.1, .sl (.sl (.int .i64)) s.2.2.1, .sl (.sl (.int .i64)) s.2.2.2]), (12, .arr 25 (.sl (.int .i64)) (st3.1.set ((s.2.2.1.getD (st1.2.2.getD st2.2.2.2.toNat 0).toNat []).getD st3.2.2.2.toNat 0).toNat ((st3.1.getD (st1.2.2.getD st2.2.2.2.toNat 0).toNat []) ++ [st3.2.2.2]))), (15, .arr 4 .bool (st3.2.1.set ((s.2.2.1.getD (st1.2.2.getD st2.2.2.2.toNat 0).toNat []).getD st3.2.2.2.toNat 0).toNat true)), (18, .arr 3 (.int .i64) st1.2.2), (64, .arr 3 (.int .i64) (st3.2.2.1 ++ [((s.2.2.1.getD (st1.2.2.getD st2.2.2.2.toNat 0).toNat []).getD st3.2.2.2.toNat 0)]))] ?_
        obtain rfl := Option.some.inj h
        exact ⟨_, rfl, zL [] [] []⟩
       ·refine zm ?_
        refine athen_n ?_
        refine AW.ops ?_
        obtain ⟨c46, h⟩ := ck_some.1 h
        refine zA [(1, .bp 1 0), (2, .own 12), (3, .own 15), (5, .own 64), (7, .int .i64 (st1.2.2.getD st2.2.2.2.toNat 0)), (22, .own 18), (23, .int .i64 (st1.2.2.length : Int)), (24, .int .i64 st2.2.2.2), (29, .int .i64 s.2.1), (30, .int .i64 (st3.2.2.2 + 1))] [(1, .box 24 [.int .i64 s.1, .int .i64 s.2.1, .sl (.sl (.int .i64)) s.2.2.1, .sl (.sl (.int .i64)) s.2.2.2]), (12, .arr 25 (.sl (.int .i64)) st3.1), (15, .arr 4 .bool st3.2.1), (18, .arr 3 (.int .i64) st1.2.2), (64, .arr 3 (.int .i64) st3.2.2.1)] ?_
        obtain rfl := Option.some.inj h
        exact ⟨_, rfl, zL [] [] []⟩
      ·refine AW.exit ?_
       refine athen_e ?_
       obtain rfl := Option.some.inj h
       rw [← hd25 _ rfl] at ho24
       have h := ho24
       refine athen_e ?_
       refine ablock_s ?_
       refine ablock_n ?_
       refine athen_n ?_
       exact AW.weaken (zL [] [] []) (hk_linealref01_ways_k3 _ h)
    ·refine AW.exit ?_
     refine athen_e ?_
     obtain rfl := Option.some.inj h
     rw [← hd16 _ rfl] at ho15
     have h := ho15
     refine athen_e ?_
     refine ablock_s ?_
     refine athen_n ?_
     exact AW.weaken (zL [] [] []) (hk_linealref01_ways_k2 _ h)
  ·refine AW.exit ?_
   refine athen_e ?_
   obtain rfl := Option.some.inj h
   rw [← hd10 _ rfl] at ho9
   have h := ho9
   refine athen_e ?_
   refine ablock_s ?_
   refine athen_n ?_
   exact AW.weaken (zL [] [] []) (hk_linealref01_ways_k1 _ h)

theorem hc_linealref01_reached (s : Int × Int × (List (List Int)) × (List (List Int))) {r : (List Int)} (h : linealref01_reached s = some r) : HC Try.prog 74 [] [.agg [.int .i64 s.1, .int .i64 s.2.1, .sl (.sl (.int .i64)) s.2.2.1, .sl (.sl (.int .i64)) s.2.2.2]] [(2000, .arr 3 (.int .i64) r)] (.own 2000) := by
 unfold linealref01_reached at h
 refine zH Try.func74 [.tmp 2] 27 ?_
 refine zo ?_
 refine zB [(1, .bp 1 0)] [(1, .box 24 [.int .i64 s.1, .int .i64 s.2.1, .sl (.sl (.int .i64)) s.2.2.1, .sl (.sl (.int .i64)) s.2.2.2])] ?_
 refine zo ?_
 refine zB [(1, .bp 1 0), (3, .cv (.slice none 0 0))] [(1, .box 24 [.int .i64 s.1, .int .i64 s.2.1, .sl (.sl (.int .i64)) s.2.2.1, .sl (.sl (.int .i64)) s.2.2.2])] ?_
 refine zo ?_
 refine zS 1 [(3, .cv (.slice none 0 0)), (9, .agg [.int .i64 s.1, .int .i64 s.2.1, .sl (.sl (.int .i64)) s.2.2.1, .sl (.sl (.int .i64)) s.2.2.2])] [] ?_
 obtain ⟨v0, hv1, h⟩ := Option.bind_eq_some_iff.1 h
 refine zC [] [] (hc_linealref01_ways s hv1) [(3, .cv (.slice none 0 0)), (10, .tup [.own 20000, .own 20001])] [(20000, .arr 25 (.sl (.int .i64)) v0.1), (20001, .arr 4 .bool v0.2)] ?_
 refine zB [(3, .cv (.slice none 0 0)), (5, .own 20001)] [(20001, .arr 4 .bool v0.2)] ?_
 refine AW.have1 (fun b1 : (List Int) => linealref01_reached_k1 b1 = some r) (fun b1 => ⟨fr [(3, .own 24)], hpGet [(24, .arr 3 (.int .i64) b1)], gt⟩) (fun b1 h => ?_) (fun hk_linealref01_reached_k1 => ?_)
 ·unfold linealref01_reached_k1 at h
  refine zo ?_
  refine zB [(2, .own 24)] [(24, .arr 3 (.int .i64) b1)] ?_
  refine AW.ret ?_
  obtain rfl := Option.some.inj h
  exact zR [] [] [(2000, 24)]
 ·refine AW.seq ?_
  refine zo ?_
  refine zB [(3, .cv (.slice none 0 0)), (13, .own 20001), (14, .int .i64 (v0.2.length : Int)), (15, .int .i64 0)] [(20001, .arr 4 .bool v0.2)] ?_
  refine AW.block ?_
  obtain ⟨rv6, hw2, ho3⟩ := Option.bind_eq_some_iff.1 h
  refine AW.loopO (linealref01_reached_b1 v0) (fun st1 => ⟨fr [(3, .own 24), (13, .own 20001), (14, .int .i64 (v0.2.length : Int)), (15, .int .i64 st1.2)], hpGet [(24, .arr 3 (.int .i64) st1.1), (20001, .arr 4 .bool v0.2)], gt⟩) ([], 0) hw2 (zL [] [24] []) ?_
  intro st1 x5 h hd4
  unfold linealref01_reached_b1 at h
  refine zo ?_
  refine zB [(3, .own 24), (13, .own 20001), (14, .int .i64 (v0.2.length : Int)), (15, .int .i64 st1.2), (16, .bool (decide (st1.2 < (v0.2.length : Int))))] [(24, .arr 3 (.int .i64) st1.1), (20001, .arr 4 .bool v0.2)] ?_
  refine AW.seq ?_
  refine zQ h (fun hb7 h => ?_) (fun hb7 h => ?_)
  ·refine zk ?_
   refine AW.seq ?_
   refine AW.block ?_
   refine zo ?_
   obtain ⟨c8, h⟩ := ck_some.1 h
   obtain ⟨c9, h⟩ := ck_some.1 h
   refine zB [(3, .own 24), (6, .int .i64 st1.2), (7, .bool (v0.2.getD st1.2.toNat false)), (13, .own 20001), (14, .int .i64 (v0.2.length : Int)), (15, .int .i64 st1.2)] [(24, .arr 3 (.int .i64) st1.1), (20001, .arr 4 .bool v0.2)] ?_
   refine zo ?_
   refine zB [(3, .own 24), (6, .int .i64 st1.2), (13, .own 20001), (14, .int .i64 (v0.2.length : Int)), (15, .int .i64 st1.2), (20, .bool (v0.2.getD st1.2.toNat false))] [(24, .arr 3 (.int .i64) st1.1), (20001, .arr 4 .bool v0.2)] ?_
   refine zQ h (fun hb10 h => ?_) (fun hb10 h => ?_)
   ·refine AW.ops ?_
    obtain ⟨c11, h⟩ := ck_some.1 h
    refine zA [(3, .own 24), (13, .own 20001), (14, .int .i64 (v0.2.length : Int)), (15, .int .i64 st1.2)] [(24, .arr 3 (.int .i64) (st1.1 ++ [st1.2])), (20001, .arr 4 .bool v0.2)] ?_
    refine ablock_n ?_
    refine athen_n ?_
    refine AW.ops ?_
    obtain ⟨c12, h⟩ := ck_some.1 h
    refine zA [(3, .own 24), (13, .own 20001), (14, .int .i64 (v0.2.length : Int)), (15, .int .i64 (st1.2 + 1))] [(24, .arr 3 (.int .i64) (st1.1 ++ [st1.2])), (20001, .arr 4 .bool v0.2)] ?_
    obtain rfl := Option.some.inj h
    exact ⟨_, rfl, zL [] [] []⟩
   ·refine zm ?_
    refine athen_n ?_
    refine AW.ops ?_
    obtain ⟨c13, h⟩ := ck_some.1 h
    refine zA [(3, .own 24), (13, .own 20001), (14, .int .i64 (v0.2.length : Int)), (15, .int .i64 (st1.2 + 1))] [(24, .arr 3 (.int .i64) st1.1), (20001, .arr 4 .bool v0.2)] ?_
    obtain rfl := Option.some.inj h
    exact ⟨_, rfl, zL [] [] []⟩
  ·refine AW.exit ?_
   refine athen_e ?_
   obtain rfl := Option.some.inj h
   rw [← hd4 _ rfl] at ho3
   have h := ho3
   refine athen_e ?_
   refine ablock_s ?_
   refine athen_n ?_
   exact AW.weaken (zL [] [] []) (hk_linealref01_reached_k1 _ h)

theorem hc_linealref01_Reads (s : Int × Int × (List (List Int)) × (List (List Int))) (op0 : Int) {r : Bool × Int} (h : linealref01_Reads s op0 = some r) : HC Try.prog 49 [] [.agg [.int .i64 s.1, .int .i64 s.2.1, .sl (.sl (.int .i64)) s.2.2.1, .sl (.sl (.int .i64)) s.2.2.2], .int .i64 op0] [] (.tup [.bool r.1, .int .i64 r.2]) := by
 unfold linealref01_Reads at h
 refine zH Try.func49 [.tmp 4, .tmp 5] 36 ?_
 refine zo ?_
 refine zB [(1, .int .i64 op0), (2, .bp 2 0)] [(2, .box 24 [.int .i64 s.1, .int .i64 s.2.1, .sl (.sl (.int .i64)) s.2.2.1, .sl (.sl (.int .i64)) s.2.2.2])] ?_
 refine AW.seq ?_
 refine zo ?_
 refine zS 3 [(1, .int .i64 op0), (2, .bp 2 0), (9, .agg [.int .i64 s.1, .int .i64 s.2.1, .sl (.sl (.int .i64)) s.2.2.1, .sl (.sl (.int .i64)) s.2.2.2]), (10, .int .i64 op0), (11, .int .i64 op0)] [(2, .box 24 [.int .i64 s.1, .int .i64 s.2.1, .sl (.sl (.int .i64)) s.2.2.1, .sl (.sl (.int .i64)) s.2.2.2])] ?_
 obtain ⟨v0, hv1, h⟩ := Option.bind_eq_some_iff.1 h
 refine zC [] [] (hc_linealref01_calls s 0 op0 op0 hv1) [(1, .int .i64 op0), (2, .bp 2 0), (12, .int .i64 v0)] [(2, .box 24 [.int .i64 s.1, .int .i64 s.2.1, .sl (.sl (.int .i64)) s.2.2.1, .sl (.sl (.int .i64)) s.2.2.2])] ?_
 refine zB [(1, .int .i64 op0), (2, .bp 2 0), (6, .int .i64 v0)] [(2, .box 24 [.int .i64 s.1, .int .i64 s.2.1, .sl (.sl (.int .i64)) s.2.2.1, .sl (.sl (.int .i64)) s.2.2.2])] ?_
 refine zo ?_
 refine zB [(1, .int .i64 op0), (2, .bp 2 0), (6, .int .i64 v0), (14, .bool (!(decide (v0 = 0))))] [(2, .box 24 [.int .i64 s.1, .int .i64 s.2.1, .sl (.sl (.int .i64)) s.2.2.1, .sl (.sl (.int .i64)) s.2.2.2])] ?_
 refine zQ h (fun hb2 h => ?_) (fun hb2 h => ?_)
 ·refine zo ?_
  refine zB [(4, .bool false), (5, .int .i64 v0)] [] ?_
  refine zr ?_
  obtain rfl := Option.some.inj h
  exact zR [] [] []
 ·refine zk ?_
  refine AW.have1 (fun _ : Unit => linealref01_Reads_k1 = some r) (fun _ => ⟨fr [], hpGet [], gt⟩) (fun _ h => ?_) (fun hk_linealref01_Reads_k1 => ?_)
  ·unfold linealref01_Reads_k1 at h
   refine zo ?_
   refine zB [(4, .bool true), (5, .int .i64 0)] [] ?_
   refine AW.ret ?_
   obtain rfl := Option.some.inj h
   exact zR [] [] []
  ·refine AW.seq ?_
   refine zo ?_
   refine zS 1 [(1, .int .i64 op0), (2, .bp 2 0), (16, .agg [.int .i64 s.1, .int .i64 s.2.1, .sl (.sl (.int .i64)) s.2.2.1, .sl (.sl (.int .i64)) s.2.2.2])] [(2, .box 24 [.int .i64 s.1, .int .i64 s.2.1, .sl (.sl (.int .i64)) s.2.2.1, .sl (.sl (.int .i64)) s.2.2.2])] ?_
   obtain ⟨v0_2, hv3, h⟩ := Option.bind_eq_some_iff.1 h
   refine zC [] [] (hc_linealref01_reached s hv3) [(1, .int .i64 op0), (2, .bp 2 0), (17, .own 27000)] [(2, .box 24 [.int .i64 s.1, .int .i64 s.2.1, .sl (.sl (.int .i64)) s.2.2.1, .sl (.sl (.int .i64)) s.2.2.2]), (27000, .arr 3 (.int .i64) v0_2)] ?_
   refine zB [(1, .int .i64 op0), (2, .bp 2 0), (17, .own 27000), (18, .int .i64 (v0_2.length : Int)), (19, .int .i64 0)] [(2, .box 24 [.int .i64 s.1, .int .i64 s.2.1, .sl (.sl (.int .i64)) s.2.2.1, .sl (.sl (.int .i64)) s.2.2.2]), (27000, .arr 3 (.int .i64) v0_2)] ?_
   refine AW.block ?_
   obtain ⟨rv8, hw4, ho5⟩ := Option.bind_eq_some_iff.1 h
   refine AW.loopO (linealref01_Reads_b1 s op0 v0_2) (fun st1 => ⟨fr [(1, .int .i64 op0), (2, .bp 2 0), (17, .own 27000), (18, .int .i64 (v0_2.length : Int)), (19, .int .i64 st1)], hpGet [(2, .box 24 [.int .i64 s.1, .int .i64 s.2.1, .sl (.sl (.int .i64)) s.2.2.1, .sl (.sl (.int .i64)) s.2.2.2]), (27000, .arr 3 (.int .i64) v0_2)], gt⟩) 0 hw4 (zL [] [] []) ?_
   intro st1 x7 h hd6
   unfold linealref01_Reads_b1 at h
   refine zo ?_
   refine zB [(1, .int .i64 op0), (2, .bp 2 0), (17, .own 27000), (18, .int .i64 (v0_2.length : Int)), (19, .int .i64 st1), (20, .bool (decide (st1 < (v0_2.length : Int))))] [(2, .box 24 [.int .i64 s.1, .int .i64 s.2.1, .sl (.sl (.int .i64)) s.2.2.1, .sl (.sl (.int .i64)) s.2.2.2]), (27000, .arr 3 (.int .i64) v0_2)] ?_
   refine AW.seq ?_
   refine zQ h (fun hb9 h => ?_) (fun hb9 h => ?_)
   ·refine zk ?_
    refine AW.seq ?_
    refine AW.block ?_
    refine zo ?_
    obtain ⟨c10, h⟩ := ck_some.1 h
    obtain ⟨c11, h⟩ := ck_some.1 h
    refine zB [(1, .int .i64 op0), (2, .bp 2 0), (8, .int .i64 (v0_2.getD st1.toNat 0)), (17, .own 27000), (18, .int .i64 (v0_2.length : Int)), (19, .int .i64 st1)] [(2, .box 24 [.int .i64 s.1, .int .i64 s.2.1, .sl (.sl (.int .i64)) s.2.2.1, .sl (.sl (.int .i64)) s.2.2.2]), (27000, .arr 3 (.int .i64) v0_2)] ?_
    refine AW.seq ?_
    refine AW.draw tab_ok mixed_ok [] [] (by decide) (by kernel_rfl) ?_
    obtain ⟨c13, h⟩ := ck_some.1 h
    obtain ⟨c14, h⟩ := ck_some.1 h
    refine adops_cut 6 (fun K' hK12 => ?_)
    try dsimp only [List.drop_succ_cons, List.drop_zero, List.take_succ_cons, List.take_zero]
    simp only [go_sem, hb2, hb9]
    repeat with_reducible refine zN ?_
    refine hK12 _ ?_
    obtain ⟨c16, h⟩ := ck_some.1 h
    obtain ⟨c17, h⟩ := ck_some.1 h
    refine adops_cut 4 (fun K' hK15 => ?_)
    try dsimp only [List.drop_succ_cons, List.drop_zero, List.take_succ_cons, List.take_zero]
    simp only [go_sem, hb2, hb9]
    repeat with_reducible refine zN ?_
    refine hK15 _ ?_
    obtain ⟨v0_3, hv18, h⟩ := Option.bind_eq_some_iff.1 h
    refine adops.call (by first | trivial | rfl) rfl rfl rfl (fun _ h => h) [] [] (hc_linealref01_same s (v0_2.getD st1.toNat 0) ((s.2.2.1.getD (v0_2.getD st1.toNat 0).toNat []).getD op0.toNat 0) hv18) rfl (by (simp only [go_sem, hb2, hb9]) <;> (with_reducible and_intros) <;> first | assumption | rfl | omega | (unfold maxLen; omega)) (by (simp only [go_sem, hb2, hb9]) <;> (with_reducible and_intros) <;> first | assumption | rfl | omega | (unfold maxLen; omega)) rfl ?_
    refine adops_cut 1 (fun K' hK19 => ?_)
    try dsimp only [List.drop_succ_cons, List.drop_zero, List.take_succ_cons, List.take_zero]
    simp only [go_sem, hb2, hb9]
    repeat with_reducible refine zN ?_
    refine hK19 _ ?_
    refine adops_nil ?_
    refine athen_n ?_
    refine zV [(1, .int .i64 op0), (2, .bp 2 0), (17, .own 27000), (18, .int .i64 (v0_2.length : Int)), (19, .int .i64 st1), (34, .bool (!v0_3))] [(2, .box 24 [.int .i64 s.1, .int .i64 s.2.1, .sl (.sl (.int .i64)) s.2.2.1, .sl (.sl (.int .i64)) s.2.2.2]), (27000, .arr 3 (.int .i64) v0_2)] gt ?_
    refine zQ h (fun hb20 h => ?_) (fun hb20 h => ?_)
    ·refine zo ?_
     refine zB [(4, .bool false), (5, .int .i64 0)] [] ?_
     refine AW.ret ?_
     refine ablock_r ?_
     refine athen_r ?_
     obtain rfl := Option.some.inj h
     rw [← hd6 _ rfl] at ho5
     have h := ho5
     try simp only at h
     refine athen_r ?_
     refine ablock_r ?_
     refine athen_r ?_
     obtain rfl := Option.some.inj h
     exact zR [] [] []
    ·refine zm ?_
     refine athen_n ?_
     refine AW.ops ?_
     obtain ⟨c21, h⟩ := ck_some.1 h
     refine zA [(1, .int .i64 op0), (2, .bp 2 0), (17, .own 27000), (18, .int .i64 (v0_2.length : Int)), (19, .int .i64 (st1 + 1))] [(2, .box 24 [.int .i64 s.1, .int .i64 s.2.1, .sl (.sl (.int .i64)) s.2.2.1, .sl (.sl (.int .i64)) s.2.2.2]), (27000, .arr 3 (.int .i64) v0_2)] ?_
     obtain rfl := Option.some.inj h
     exact ⟨_, rfl, zL [] [] []⟩
   ·refine AW.exit ?_
    refine athen_e ?_
    obtain rfl := Option.some.inj h
    rw [← hd6 _ rfl] at ho5
    have h := ho5
    try simp only at h
    refine athen_e ?_
    refine ablock_s ?_
    refine athen_n ?_
    exact AW.weaken (zL [] [] []) (hk_linealref01_Reads_k1 () h)

theorem hc_linealref01_Meddles (s : Int × Int × (List (List Int)) × (List (List Int))) {r : Int × Int × Int × Int} (h : linealref01_Meddles s = some r) : HC Try.prog 51 [] [.agg [.int .i64 s.1, .int .i64 s.2.1, .sl (.sl (.int .i64)) s.2.2.1, .sl (.sl (.int .i64)) s.2.2.2]] [] (.tup [.int .i64 r.1, .int .i64 r.2.1, .int .i64 r.2.2.1, .int .i64 r.2.2.2]) := by
 unfold linealref01_Meddles at h
 refine zH Try.func51 [.tmp 2, .tmp 3, .tmp 4, .tmp 5] 59 ?_
 refine zo ?_
 refine zB [(1, .bp 1 0)] [(1, .box 24 [.int .i64 s.1, .int .i64 s.2.1, .sl (.sl (.int .i64)) s.2.2.1, .sl (.sl (.int .i64)) s.2.2.2])] ?_
 refine AW.seq ?_
 refine zo ?_
 refine zS 1 [(1, .bp 1 0), (10, .agg [.int .i64 s.1, .int .i64 s.2.1, .sl (.sl (.int .i64)) s.2.2.1, .sl (.sl (.int .i64)) s.2.2.2])] [(1, .box 24 [.int .i64 s.1, .int .i64 s.2.1, .sl (.sl (.int .i64)) s.2.2.1, .sl (.sl (.int .i64)) s.2.2.2])] ?_
 obtain ⟨v0, hv1, h⟩ := Option.bind_eq_some_iff.1 h
 refine zC [] [] (hc_linealref01_Valid s hv1) [(1, .bp 1 0), (11, .bool v0)] [(1, .box 24 [.int .i64 s.1, .int .i64 s.2.1, .sl (.sl (.int .i64)) s.2.2.1, .sl (.sl (.int .i64)) s.2.2.2])] ?_
 refine zB [(1, .bp 1 0), (12, .bool (!v0))] [(1, .box 24 [.int .i64 s.1, .int .i64 s.2.1, .sl (.sl (.int .i64)) s.2.2.1, .sl (.sl (.int .i64)) s.2.2.2])] ?_
 refine zQ h (fun hb2 h => ?_) (fun hb2 h => ?_)
 ·refine zo ?_
  refine zB [(2, .int .i64 0), (3, .int .i64 0), (4, .int .i64 0), (5, .int .i64 10)] [] ?_
  refine zr ?_
  obtain rfl := Option.some.inj h
  exact zR [] [] []
 ·refine zk ?_
  refine AW.have1 (fun _ : Unit => linealref01_Meddles_k1 = some r) (fun _ => ⟨fr [], hpGet [], gt⟩) (fun _ h => ?_) (fun hk_linealref01_Meddles_k1 => ?_)
  ·unfold linealref01_Meddles_k1 at h
   refine zo ?_
   refine zB [(2, .int .i64 0), (3, .int .i64 0), (4, .int .i64 0), (5, .int .i64 5)] [] ?_
   refine AW.ret ?_
   obtain rfl := Option.some.inj h
   exact zR [] [] []
  ·refine AW.seq ?_
   refine zo ?_
   refine zS 1 [(1, .bp 1 0), (13, .agg [.int .i64 s.1, .int .i64 s.2.1, .sl (.sl (.int .i64)) s.2.2.1, .sl (.sl (.int .i64)) s.2.2.2])] [(1, .box 24 [.int .i64 s.1, .int .i64 s.2.1, .sl (.sl (.int .i64)) s.2.2.1, .sl (.sl (.int .i64)) s.2.2.2])] ?_
   obtain ⟨v0_2, hv3, h⟩ := Option.bind_eq_some_iff.1 h
   refine zC [] [] (hc_linealref01_reached s hv3) [(1, .bp 1 0), (14, .own 24000)] [(1, .box 24 [.int .i64 s.1, .int .i64 s.2.1, .sl (.sl (.int .i64)) s.2.2.1, .sl (.sl (.int .i64)) s.2.2.2]), (24000, .arr 3 (.int .i64) v0_2)] ?_
   refine zB [(1, .bp 1 0), (14, .own 24000), (15, .int .i64 (v0_2.length : Int)), (16, .int .i64 0)] [(1, .box 24 [.int .i64 s.1, .int .i64 s.2.1, .sl (.sl (.int .i64)) s.2.2.1, .sl (.sl (.int .i64)) s.2.2.2]), (24000, .arr 3 (.int .i64) v0_2)] ?_
   refine AW.block ?_
   obtain ⟨rv8, hw4, ho5⟩ := Option.bind_eq_some_iff.1 h
   refine AW.loopO (linealref01_Meddles_b1 s v0_2) (fun st1 => ⟨fr [(1, .bp 1 0), (14, .own 24000), (15, .int .i64 (v0_2.length : Int)), (16, .int .i64 st1)], hpGet [(1, .box 24 [.int .i64 s.1, .int .i64 s.2.1, .sl (.sl (.int .i64)) s.2.2.1, .sl (.sl (.int .i64)) s.2.2.2]), (24000, .arr 3 (.int .i64) v0_2)], gt⟩) 0 hw4 (zL [] [] []) ?_
   intro st1 x7 h hd6
   unfold linealref01_Meddles_b1 at h
   refine zo ?_
   refine zB [(1, .bp 1 0), (14, .own 24000), (15, .int .i64 (v0_2.length : Int)), (16, .int .i64 st1), (17, .bool (decide (st1 < (v0_2.length : Int))))] [(1, .box 24 [.int .i64 s.1, .int .i64 s.2.1, .sl (.sl (.int .i64)) s.2.2.1, .sl (.sl (.int .i64)) s.2.2.2]), (24000, .arr 3 (.int .i64) v0_2)] ?_
   refine AW.seq ?_
   refine zQ h (fun hb9 h => ?_) (fun hb9 h => ?_)
   ·refine zk ?_
    refine AW.have1 (fun _ : Unit => linealref01_Meddles_k2 st1 = some x7) (fun _ => ⟨fr [(1, .bp 1 0), (14, .own 24000), (15, .int .i64 (v0_2.length : Int)), (16, .int .i64 st1)], hpGet [(1, .box 24 [.int .i64 s.1, .int .i64 s.2.1, .sl (.sl (.int .i64)) s.2.2.1, .sl (.sl (.int .i64)) s.2.2.2]), (24000, .arr 3 (.int .i64) v0_2)], gt⟩) (fun _ h => ?_) (fun hk_linealref01_Meddles_k2 => ?_)
    ·unfold linealref01_Meddles_k2 at h
     refine AW.ops ?_
     obtain ⟨c10, h⟩ := ck_some.1 h
     refine zA [(1, .bp 1 0), (14, .own 24000), (15, .int .i64 (v0_2.length : Int)), (16, .int .i64 (st1 + 1))] [(1, .box 24 [.int .i64 s.1, .int .i64 s.2.1, .sl (.sl (.int .i64)) s.2.2.1, .sl (.sl (.int .i64)) s.2.2.2]), (24000, .arr 3 (.int .i64) v0_2)] ?_
     obtain rfl := Option.some.inj h
     exact ⟨_, rfl, zL [] [] []⟩
    ·refine AW.seq ?_
     refine AW.block ?_
     refine zo ?_
     obtain ⟨c11, h⟩ := ck_some.1 h
     obtain ⟨c12, h⟩ := ck_some.1 h
     refine zB [(1, .bp 1 0), (7, .int .i64 (v0_2.getD st1.toNat 0)), (14, .own 24000), (15, .int .i64 (v0_2.length : Int)), (16, .int .i64 st1)] [(1, .box 24 [.int .i64 s.1, .int .i64 s.2.1, .sl (.sl (.int .i64)) s.2.2.1, .sl (.sl (.int .i64)) s.2.2.2]), (24000, .arr 3 (.int .i64) v0_2)] ?_
     refine zo ?_
     refine zB [(1, .bp 1 0), (7, .int .i64 (v0_2.getD st1.toNat 0)), (14, .own 24000), (15, .int .i64 (v0_2.length : Int)), (16, .int .i64 st1), (21, .int .i64 s.2.1), (22, .int .i64 0)] [(1, .box 24 [.int .i64 s.1, .int .i64 s.2.1, .sl (.sl (.int .i64)) s.2.2.1, .sl (.sl (.int .i64)) s.2.2.2]), (24000, .arr 3 (.int .i64) v0_2)] ?_
     refine AW.block ?_
     obtain ⟨rv17, hw13, ho14⟩ := Option.bind_eq_some_iff.1 h
     refine AW.loopO (linealref01_Meddles_b2 s v0_2 st1) (fun st2 => ⟨fr [(1, .bp 1 0), (7, .int .i64 (v0_2.getD st1.toNat 0)), (14, .own 24000), (15, .int .i64 (v0_2.length : Int)), (16, .int .i64 st1), (21, .int .i64 s.2.1), (22, .int .i64 st2)], hpGet [(1, .box 24 [.int .i64 s.1, .int .i64 s.2.1, .sl (.sl (.int .i64)) s.2.2.1, .sl (.sl (.int .i64)) s.2.2.2]), (24000, .arr 3 (.int .i64) v0_2)], gt⟩) 0 hw13 (zL [] [] []) ?_
     intro st2 x16 h hd15
     unfold linealref01_Meddles_b2 at h
     refine zo ?_
     refine zB [(1, .bp 1 0), (7, .int .i64 (v0_2.getD st1.toNat 0)), (14, .own 24000), (15, .int .i64 (v0_2.length : Int)), (16, .int .i64 st1), (21, .int .i64 s.2.1), (22, .int .i64 st2), (23, .bool (decide (st2 < s.2.1)))] [(1, .box 24 [.int .i64 s.1, .int .i64 s.2.1, .sl (.sl (.int .i64)) s.2.2.1, .sl (.sl (.int .i64)) s.2.2.2]), (24000, .arr 3 (.int .i64) v0_2)] ?_
     refine AW.seq ?_
     refine zQ h (fun hb18 h => ?_) (fun hb18 h => ?_)
     ·refine zk ?_
      refine AW.have1 (fun _ : Unit => linealref01_Meddles_k3 st2 = some x16) (fun _ => ⟨fr [(1, .bp 1 0), (7, .int .i64 (v0_2.getD st1.toNat 0)), (14, .own 24000), (15, .int .i64 (v0_2.length : Int)), (16, .int .i64 st1), (21, .int .i64 s.2.1), (22, .int .i64 st2)], hpGet [(1, .box 24 [.int .i64 s.1, .int .i64 s.2.1, .sl (.sl (.int .i64)) s.2.2.1, .sl (.sl (.int .i64)) s.2.2.2]), (24000, .arr 3 (.int .i64) v0_2)], gt⟩) (fun _ h => ?_) (fun hk_linealref01_Meddles_k3 => ?_)
      ·unfold linealref01_Meddles_k3 at h
       refine AW.ops ?_
       obtain ⟨c19, h⟩ := ck_some.1 h
       refine zA [(1, .bp 1 0), (7, .int .i64 (v0_2.getD st1.toNat 0)), (14, .own 24000), (15, .int .i64 (v0_2.length : Int)), (16, .int .i64 st1), (21, .int .i64 s.2.1), (22, .int .i64 (st2 + 1))] [(1, .box 24 [.int .i64 s.1, .int .i64 s.2.1, .sl (.sl (.int .i64)) s.2.2.1, .sl (.sl (.int .i64)) s.2.2.2]), (24000, .arr 3 (.int .i64) v0_2)] ?_
       obtain rfl := Option.some.inj h
       exact ⟨_, rfl, zL [] [] []⟩
      ·refine AW.seq ?_
       refine AW.block ?_
       refine zo ?_
       refine zB [(1, .bp 1 0), (7, .int .i64 (v0_2.getD st1.toNat 0)), (8, .int .i64 st2), (14, .own 24000), (15, .int .i64 (v0_2.length : Int)), (16, .int .i64 st1), (21, .int .i64 s.2.1), (22, .int .i64 st2)] [(1, .box 24 [.int .i64 s.1, .int .i64 s.2.1, .sl (.sl (.int .i64)) s.2.2.1, .sl (.sl (.int .i64)) s.2.2.2]), (24000, .arr 3 (.int .i64) v0_2)] ?_
       refine zo ?_
       refine zB [(1, .bp 1 0), (7, .int .i64 (v0_2.getD st1.toNat 0)), (8, .int .i64 st2), (9, .int .i64 st2), (14, .own 24000), (15, .int .i64 (v0_2.length : Int)), (16, .int .i64 st1), (21, .int .i64 s.2.1), (22, .int .i64 st2)] [(1, .box 24 [.int .i64 s.1, .int .i64 s.2.1, .sl (.sl (.int .i64)) s.2.2.1, .sl (.sl (.int .i64)) s.2.2.2]), (24000, .arr 3 (.int .i64) v0_2)] ?_
       refine AW.block ?_
       obtain ⟨rv24, hw20, ho21⟩ := Option.bind_eq_some_iff.1 h
       refine AW.loopO (linealref01_Meddles_b3 s v0_2 st1 st2) (fun st3 => ⟨fr [(1, .bp 1 0), (7, .int .i64 (v0_2.getD st1.toNat 0)), (8, .int .i64 st2), (9, .int .i64 st3), (14, .own 24000), (15, .int .i64 (v0_2.length : Int)), (16, .int .i64 st1), (21, .int .i64 s.2.1), (22, .int .i64 st2)], hpGet [(1, .box 24 [.int .i64 s.1, .int .i64 s.2.1, .sl (.sl (.int .i64)) s.2.2.1, .sl (.sl (.int .i64)) s.2.2.2]), (24000, .arr 3 (.int .i64) v0_2)], gt⟩) st2 hw20 (zL [] [] []) ?_
       intro st3 x23 h hd22
       unfold linealref01_Meddles_b3 at h
       refine AW.seq ?_
       refine zo ?_
       refine zB [(1, .bp 1 0), (7, .int .i64 (v0_2.getD st1.toNat 0)), (8, .int .i64 st2), (9, .int .i64 st3), (14, .own 24000), (15, .int .i64 (v0_2.length : Int)), (16, .int .i64 st1), (21, .int .i64 s.2.1), (22, .int .i64 st2), (29, .bool (decide (st3 < s.2.1)))] [(1, .box 24 [.int .i64 s.1, .int .i64 s.2.1, .sl (.sl (.int .i64)) s.2.2.1, .sl (.sl (.int .i64)) s.2.2.2]), (24000, .arr 3 (.int .i64) v0_2)] ?_
       refine zQ h (fun hb25 h => ?_) (fun hb25 h => ?_)
       ·refine zk ?_
        refine AW.seq ?_
        refine AW.block ?_
        refine zo ?_
        refine zS 4 [(1, .bp 1 0), (7, .int .i64 (v0_2.getD st1.toNat 0)), (8, .int .i64 st2), (9, .int .i64 st3), (14, .own 24000), (15, .int .i64 (v0_2.length : Int)), (16, .int .i64 st1), (21, .int .i64 s.2.1), (22, .int .i64 st2), (32, .agg [.int .i64 s.1, .int .i64 s.2.1, .sl (.sl (.int .i64)) s.2.2.1, .sl (.sl (.int .i64)) s.2.2.2]), (33, .int .i64 (v0_2.getD st1.toNat 0)), (34, .int .i64 st2), (35, .int .i64 st3)] [(1, .box 24 [.int .i64 s.1, .int .i64 s.2.1, .sl (.sl (.int .i64)) s.2.2.1, .sl (.sl (.int .i64)) s.2.2.2]), (24000, .arr 3 (.int .i64) v0_2)] ?_
        obtain ⟨v0_3, hv26, h⟩ := Option.bind_eq_some_iff.1 h
        refine zC [] [] (hc_linealref01_commute s (v0_2.getD st1.toNat 0) st2 st3 hv26) [(1, .bp 1 0), (7, .int .i64 (v0_2.getD st1.toNat 0)), (8, .int .i64 st2), (9, .int .i64 st3), (14, .own 24000), (15, .int .i64 (v0_2.length : Int)), (16, .int .i64 st1), (21, .int .i64 s.2.1), (22, .int .i64 st2), (36, .bool v0_3)] [(1, .box 24 [.int .i64 s.1, .int .i64 s.2.1, .sl (.sl (.int .i64)) s.2.2.1, .sl (.sl (.int .i64)) s.2.2.2]), (24000, .arr 3 (.int .i64) v0_2)] ?_
        refine zS 2 [(1, .bp 1 0), (7, .int .i64 (v0_2.getD st1.toNat 0)), (8, .int .i64 st2), (9, .int .i64 st3), (14, .own 24000), (15, .int .i64 (v0_2.length : Int)), (16, .int .i64 st1), (21, .int .i64 s.2.1), (22, .int .i64 st2), (38, .bool (!v0_3))] [(1, .box 24 [.int .i64 s.1, .int .i64 s.2.1, .sl (.sl (.int .i64)) s.2.2.1, .sl (.sl (.int .i64)) s.2.2.2]), (24000, .arr 3 (.int .i64) v0_2)] ?_
        rcases zI h with ⟨hb27, h⟩ | ⟨hb27, h⟩
        ·refine zS 4 [(1, .bp 1 0), (7, .int .i64 (v0_2.getD st1.toNat 0)), (8, .int .i64 st2), (9, .int .i64 st3), (14, .own 24000), (15, .int .i64 (v0_2.length : Int)), (16, .int .i64 st1), (21, .int .i64 s.2.1), (22, .int .i64 st2), (38, .bool true), (39, .agg [.int .i64 s.1, .int .i64 s.2.1, .sl (.sl (.int .i64)) s.2.2.1, .sl (.sl (.int .i64)) s.2.2.2]), (40, .int .i64 (v0_2.getD st1.toNat 0)), (41, .int .i64 st2), (42, .int .i64 st3)] [(1, .box 24 [.int .i64 s.1, .int .i64 s.2.1, .sl (.sl (.int .i64)) s.2.2.1, .sl (.sl (.int .i64)) s.2.2.2]), (24000, .arr 3 (.int .i64) v0_2)] ?_
         obtain ⟨v0_4, hv28, h⟩ := Option.bind_eq_some_iff.1 h
         refine zG [] [] (hc_linealref01_overwrites s (v0_2.getD st1.toNat 0) st2 st3 hv28) [(1, .bp 1 0), (7, .int .i64 (v0_2.getD st1.toNat 0)), (8, .int .i64 st2), (9, .int .i64 st3), (14, .own 24000), (15, .int .i64 (v0_2.length : Int)), (16, .int .i64 st1), (21, .int .i64 s.2.1), (22, .int .i64 st2), (38, .bool true), (43, .bool v0_4)] [(1, .box 24 [.int .i64 s.1, .int .i64 s.2.1, .sl (.sl (.int .i64)) s.2.2.1, .sl (.sl (.int .i64)) s.2.2.2]), (24000, .arr 3 (.int .i64) v0_2)] ?_
         refine zS 3 [(1, .bp 1 0), (7, .int .i64 (v0_2.getD st1.toNat 0)), (8, .int .i64 st2), (9, .int .i64 st3), (14, .own 24000), (15, .int .i64 (v0_2.length : Int)), (16, .int .i64 st1), (21, .int .i64 s.2.1), (22, .int .i64 st2), (46, .bool (!v0_4))] [(1, .box 24 [.int .i64 s.1, .int .i64 s.2.1, .sl (.sl (.int .i64)) s.2.2.1, .sl (.sl (.int .i64)) s.2.2.2]), (24000, .arr 3 (.int .i64) v0_2)] ?_
         rcases zI h with ⟨hb29, h⟩ | ⟨hb29, h⟩
         ·refine zS 4 [(1, .bp 1 0), (7, .int .i64 (v0_2.getD st1.toNat 0)), (8, .int .i64 st2), (9, .int .i64 st3), (14, .own 24000), (15, .int .i64 (v0_2.length : Int)), (16, .int .i64 st1), (21, .int .i64 s.2.1), (22, .int .i64 st2), (46, .bool true), (47, .agg [.int .i64 s.1, .int .i64 s.2.1, .sl (.sl (.int .i64)) s.2.2.1, .sl (.sl (.int .i64)) s.2.2.2]), (48, .int .i64 (v0_2.getD st1.toNat 0)), (49, .int .i64 st3), (50, .int .i64 st2)] [(1, .box 24 [.int .i64 s.1, .int .i64 s.2.1, .sl (.sl (.int .i64)) s.2.2.1, .sl (.sl (.int .i64)) s.2.2.2]), (24000, .arr 3 (.int .i64) v0_2)] ?_
          obtain ⟨v0_5, hv30, h⟩ := Option.bind_eq_some_iff.1 h
          refine zG [] [] (hc_linealref01_overwrites s (v0_2.getD st1.toNat 0) st3 st2 hv30) [(1, .bp 1 0), (7, .int .i64 (v0_2.getD st1.toNat 0)), (8, .int .i64 st2), (9, .int .i64 st3), (14, .own 24000), (15, .int .i64 (v0_2.length : Int)), (16, .int .i64 st1), (21, .int .i64 s.2.1), (22, .int .i64 st2), (46, .bool true), (51, .bool v0_5)] [(1, .box 24 [.int .i64 s.1, .int .i64 s.2.1, .sl (.sl (.int .i64)) s.2.2.1, .sl (.sl (.int .i64)) s.2.2.2]), (24000, .arr 3 (.int .i64) v0_2)] ?_
          refine zB [(1, .bp 1 0), (7, .int .i64 (v0_2.getD st1.toNat 0)), (8, .int .i64 st2), (9, .int .i64 st3), (14, .own 24000), (15, .int .i64 (v0_2.length : Int)), (16, .int .i64 st1), (21, .int .i64 s.2.1), (22, .int .i64 st2), (53, .bool (!v0_5))] [(1, .box 24 [.int .i64 s.1, .int .i64 s.2.1, .sl (.sl (.int .i64)) s.2.2.1, .sl (.sl (.int .i64)) s.2.2.2]), (24000, .arr 3 (.int .i64) v0_2)] ?_
          refine zQ h (fun hb31 h => ?_) (fun hb31 h => ?_)
          ·refine zo ?_
           refine zB [(2, .int .i64 (v0_2.getD st1.toNat 0)), (3, .int .i64 st2), (4, .int .i64 st3), (5, .int .i64 0)] [] ?_
           refine AW.ret ?_
           refine ablock_r ?_
           refine athen_r ?_
           obtain rfl := Option.some.inj h
           rw [← hd22 _ rfl] at ho21
           have h := ho21
           try simp only at h
           refine athen_r ?_
           refine ablock_r ?_
           refine ablock_r ?_
           refine athen_r ?_
           obtain rfl := Option.some.inj h
           rw [← hd15 _ rfl] at ho14
           have h := ho14
           try simp only at h
           refine athen_r ?_
           refine ablock_r ?_
           refine ablock_r ?_
           refine athen_r ?_
           obtain rfl := Option.some.inj h
           rw [← hd6 _ rfl] at ho5
           have h := ho5
           try simp only at h
           refine athen_r ?_
           refine ablock_r ?_
           refine athen_r ?_
           obtain rfl := Option.some.inj h
           exact zR [] [] []
          ·refine zm ?_
           refine athen_n ?_
           refine AW.ops ?_
           obtain ⟨c32, h⟩ := ck_some.1 h
           refine zA [(1, .bp 1 0), (7, .int .i64 (v0_2.getD st1.toNat 0)), (8, .int .i64 st2), (9, .int .i64 (st3 + 1)), (14, .own 24000), (15, .int .i64 (v0_2.length : Int)), (16, .int .i64 st1), (21, .int .i64 s.2.1), (22, .int .i64 st2)] [(1, .box 24 [.int .i64 s.1, .int .i64 s.2.1, .sl (.sl (.int .i64)) s.2.2.1, .sl (.sl (.int .i64)) s.2.2.2]), (24000, .arr 3 (.int .i64) v0_2)] ?_
           obtain rfl := Option.some.inj h
           exact ⟨_, rfl, zL [] [] []⟩
         ·refine zS 4 [(1, .bp 1 0), (7, .int .i64 (v0_2.getD st1.toNat 0)), (8, .int .i64 st2), (9, .int .i64 st3), (14, .own 24000), (15, .int .i64 (v0_2.length : Int)), (16, .int .i64 st1), (21, .int .i64 s.2.1), (22, .int .i64 st2), (46, .bool false), (47, .cv (undef)), (48, .cv (undef)), (49, .cv (undef)), (50, .cv (undef))] [(1, .box 24 [.int .i64 s.1, .int .i64 s.2.1, .sl (.sl (.int .i64)) s.2.2.1, .sl (.sl (.int .i64)) s.2.2.2]), (24000, .arr 3 (.int .i64) v0_2)] ?_
          refine zB [(1, .bp 1 0), (7, .int .i64 (v0_2.getD st1.toNat 0)), (8, .int .i64 st2), (9, .int .i64 st3), (14, .own 24000), (15, .int .i64 (v0_2.length : Int)), (16, .int .i64 st1), (21, .int .i64 s.2.1), (22, .int .i64 st2), (53, .bool false)] [(1, .box 24 [.int .i64 s.1, .int .i64 s.2.1, .sl (.sl (.int .i64)) s.2.2.1, .sl (.sl (.int .i64)) s.2.2.2]), (24000, .arr 3 (.int .i64) v0_2)] ?_
          refine AW.cond (b := false) rfl (fun hb33 => by cases hb33) (fun _ => ?_)
          refine zm ?_
          refine athen_n ?_
          refine AW.ops ?_
          obtain ⟨c34, h⟩ := ck_some.1 h
          refine zA [(1, .bp 1 0), (7, .int .i64 (v0_2.getD st1.toNat 0)), (8, .int .i64 st2), (9, .int .i64 (st3 + 1)), (14, .own 24000), (15, .int .i64 (v0_2.length : Int)), (16, .int .i64 st1), (21, .int .i64 s.2.1), (22, .int .i64 st2)] [(1, .box 24 [.int .i64 s.1, .int .i64 s.2.1, .sl (.sl (.int .i64)) s.2.2.1, .sl (.sl (.int .i64)) s.2.2.2]), (24000, .arr 3 (.int .i64) v0_2)] ?_
          obtain rfl := Option.some.inj h
          exact ⟨_, rfl, zL [] [] []⟩
        ·refine zS 4 [(1, .bp 1 0), (7, .int .i64 (v0_2.getD st1.toNat 0)), (8, .int .i64 st2), (9, .int .i64 st3), (14, .own 24000), (15, .int .i64 (v0_2.length : Int)), (16, .int .i64 st1), (21, .int .i64 s.2.1), (22, .int .i64 st2), (38, .bool false), (39, .cv (undef)), (40, .cv (undef)), (41, .cv (undef)), (42, .cv (undef))] [(1, .box 24 [.int .i64 s.1, .int .i64 s.2.1, .sl (.sl (.int .i64)) s.2.2.1, .sl (.sl (.int .i64)) s.2.2.2]), (24000, .arr 3 (.int .i64) v0_2)] ?_
         refine zS 6 [(1, .bp 1 0), (7, .int .i64 (v0_2.getD st1.toNat 0)), (8, .int .i64 st2), (9, .int .i64 st3), (14, .own 24000), (15, .int .i64 (v0_2.length : Int)), (16, .int .i64 st1), (21, .int .i64 s.2.1), (22, .int .i64 st2), (46, .bool false), (47, .cv (undef)), (48, .cv (undef))] [(1, .box 24 [.int .i64 s.1, .int .i64 s.2.1, .sl (.sl (.int .i64)) s.2.2.1, .sl (.sl (.int .i64)) s.2.2.2]), (24000, .arr 3 (.int .i64) v0_2)] ?_
         refine zS 4 [(1, .bp 1 0), (7, .int .i64 (v0_2.getD st1.toNat 0)), (8, .int .i64 st2), (9, .int .i64 st3), (14, .own 24000), (15, .int .i64 (v0_2.length : Int)), (16, .int .i64 st1), (21, .int .i64 s.2.1), (22, .int .i64 st2), (46, .bool false), (52, .cv (undef))] [(1, .box 24 [.int .i64 s.1, .int .i64 s.2.1, .sl (.sl (.int .i64)) s.2.2.1, .sl (.sl (.int .i64)) s.2.2.2]), (24000, .arr 3 (.int .i64) v0_2)] ?_
         refine zB [(1, .bp 1 0), (7, .int .i64 (v0_2.getD st1.toNat 0)), (8, .int .i64 st2), (9, .int .i64 st3), (14, .own 24000), (15, .int .i64 (v0_2.length : Int)), (16, .int .i64 st1), (21, .int .i64 s.2.1), (22, .int .i64 st2), (53, .bool false)] [(1, .box 24 [.int .i64 s.1, .int .i64 s.2.1, .sl (.sl (.int .i64)) s.2.2.1, .sl (.sl (.int .i64)) s.2.2.2]), (24000, .arr 3 (.int .i64) v0_2)] ?_
         refine AW.cond (b := false) rfl (fun hb35 => by cases hb35) (fun _ => ?_)
         refine zm ?_
         refine athen_n ?_
         refine AW.ops ?_
         obtain ⟨c36, h⟩ := ck_some.1 h
         refine zA [(1, .bp 1 0), (7, .int .i64 (v0_2.getD st1.toNat 0)), (8, .int .i64 st2), (9, .int .i64 (st3 + 1)), (14, .own 24000), (15, .int .i64 (v0_2.length : Int)), (16, .int .i64 st1), (21, .int .i64 s.2.1), (22, .int .i64 st2)] [(1, .box 24 [.int .i64 s.1, .int .i64 s.2.1, .sl (.sl (.int .i64)) s.2.2.1, .sl (.sl (.int .i64)) s.2.2.2]), (24000, .arr 3 (.int .i64) v0_2)] ?_
         obtain rfl := Option.some.inj h
         exact ⟨_, rfl, zL [] [] []⟩
       ·refine AW.exit ?_
        refine athen_e ?_
        obtain rfl := Option.some.inj h
        rw [← hd22 _ rfl] at ho21
        have h := ho21
        try simp only at h
        refine athen_e ?_
        refine ablock_s ?_
        refine ablock_n ?_
        refine athen_n ?_
        exact AW.weaken (zL [] [] []) (hk_linealref01_Meddles_k3 () h)
     ·refine AW.exit ?_
      refine athen_e ?_
      obtain rfl := Option.some.inj h
      rw [← hd15 _ rfl] at ho14
      have h := ho14
      try simp only at h
      refine athen_e ?_
      refine ablock_s ?_
      refine ablock_n ?_
      refine athen_n ?_
      exact AW.weaken (zL [] [] []) (hk_linealref01_Meddles_k2 () h)
   ·refine AW.exit ?_
    refine athen_e ?_
    obtain rfl := Option.some.inj h
    rw [← hd6 _ rfl] at ho5
    have h := ho5
    try simp only at h
    refine athen_e ?_
    refine ablock_s ?_
    refine athen_n ?_
    exact AW.weaken (zL [] [] []) (hk_linealref01_Meddles_k1 () h)

theorem hc_lineallaw01_SpecCalls (s : Int × Int × (List (List Int)) × (List (List Int))) (state : Int) (a : Int) (b : Int) {r : Bool} (h : lineallaw01_SpecCalls s state a b = some r) : HC Try.prog 7 [] [.agg [.int .i64 s.1, .int .i64 s.2.1, .sl (.sl (.int .i64)) s.2.2.1, .sl (.sl (.int .i64)) s.2.2.2], .int .i64 state, .int .i64 a, .int .i64 b] [] (.bool r) := by
 unfold lineallaw01_SpecCalls at h
 refine zH Try.func7 [.tmp 8] 129 ?_
 refine zo ?_
 refine zB [(1, .int .i64 state), (2, .int .i64 a), (3, .int .i64 b), (4, .bp 4 0)] [(4, .box 24 [.int .i64 s.1, .int .i64 s.2.1, .sl (.sl (.int .i64)) s.2.2.1, .sl (.sl (.int .i64)) s.2.2.2])] ?_
 refine AW.seq ?_
 refine zo ?_
 refine zS 1 [(1, .int .i64 state), (2, .int .i64 a), (3, .int .i64 b), (4, .bp 4 0), (21, .agg [.int .i64 s.1, .int .i64 s.2.1, .sl (.sl (.int .i64)) s.2.2.1, .sl (.sl (.int .i64)) s.2.2.2])] [(4, .box 24 [.int .i64 s.1, .int .i64 s.2.1, .sl (.sl (.int .i64)) s.2.2.1, .sl (.sl (.int .i64)) s.2.2.2])] ?_
 obtain ⟨v0, hv1, h⟩ := Option.bind_eq_some_iff.1 h
 refine zC [] [] (hc_lineallaw01_Long s hv1) [(1, .int .i64 state), (2, .int .i64 a), (3, .int .i64 b), (4, .bp 4 0), (22, .bool v0)] [(4, .box 24 [.int .i64 s.1, .int .i64 s.2.1, .sl (.sl (.int .i64)) s.2.2.1, .sl (.sl (.int .i64)) s.2.2.2])] ?_
 refine zB [(1, .int .i64 state), (2, .int .i64 a), (3, .int .i64 b), (4, .bp 4 0), (22, .bool v0)] [(4, .box 24 [.int .i64 s.1, .int .i64 s.2.1, .sl (.sl (.int .i64)) s.2.2.1, .sl (.sl (.int .i64)) s.2.2.2])] ?_
 refine zQ h (fun hb2 h => ?_) (fun hb2 h => ?_)
 ·refine zo ?_
  obtain ⟨v0_2, hv3, h⟩ := Option.bind_eq_some_iff.1 h
  refine zC [] [] (hc_lineallaw01_Awake hv3) [(23, .bool v0_2)] [] ?_
  refine zB [(8, .bool v0_2)] [] ?_
  refine zr ?_
  obtain rfl := Option.some.inj h
  exact zR [] [] []
 ·refine zk ?_
  refine zo ?_
  refine zS 4 [(1, .int .i64 state), (2, .int .i64 a), (3, .int .i64 b), (4, .bp 4 0), (25, .agg [.int .i64 s.1, .int .i64 s.2.1, .sl (.sl (.int .i64)) s.2.2.1, .sl (.sl (.int .i64)) s.2.2.2]), (26, .int .i64 state), (27, .int .i64 a), (28, .int .i64 b)] [(4, .box 24 [.int .i64 s.1, .int .i64 s.2.1, .sl (.sl (.int .i64)) s.2.2.1, .sl (.sl (.int .i64)) s.2.2.2])] ?_
  obtain ⟨v0_3, hv4, h⟩ := Option.bind_eq_some_iff.1 h
  refine zC [] [] (hc_spec_Commute s state a b hv4) [(1, .int .i64 state), (2, .int .i64 a), (3, .int .i64 b), (4, .bp 4 0), (29, .tup [.bool v0_3.1, .int .i64 v0_3.2])] [(4, .box 24 [.int .i64 s.1, .int .i64 s.2.1, .sl (.sl (.int .i64)) s.2.2.1, .sl (.sl (.int .i64)) s.2.2.2])] ?_
  refine zB [(1, .int .i64 state), (2, .int .i64 a), (3, .int .i64 b), (4, .bp 4 0), (9, .bool v0_3.1), (10, .int .i64 v0_3.2)] [(4, .box 24 [.int .i64 s.1, .int .i64 s.2.1, .sl (.sl (.int .i64)) s.2.2.1, .sl (.sl (.int .i64)) s.2.2.2])] ?_
  refine zo ?_
  refine zS 4 [(1, .int .i64 state), (2, .int .i64 a), (3, .int .i64 b), (4, .bp 4 0), (9, .bool v0_3.1), (10, .int .i64 v0_3.2), (33, .agg [.int .i64 s.1, .int .i64 s.2.1, .sl (.sl (.int .i64)) s.2.2.1, .sl (.sl (.int .i64)) s.2.2.2]), (34, .int .i64 state), (35, .int .i64 a), (36, .int .i64 b)] [(4, .box 24 [.int .i64 s.1, .int .i64 s.2.1, .sl (.sl (.int .i64)) s.2.2.1, .sl (.sl (.int .i64)) s.2.2.2])] ?_
  obtain ⟨v0_4, hv5, h⟩ := Option.bind_eq_some_iff.1 h
  refine zC [] [] (hc_linealref01_Commute s state a b hv5) [(1, .int .i64 state), (2, .int .i64 a), (3, .int .i64 b), (4, .bp 4 0), (9, .bool v0_3.1), (10, .int .i64 v0_3.2), (37, .tup [.bool v0_4.1, .int .i64 v0_4.2])] [(4, .box 24 [.int .i64 s.1, .int .i64 s.2.1, .sl (.sl (.int .i64)) s.2.2.1, .sl (.sl (.int .i64)) s.2.2.2])] ?_
  refine zB [(1, .int .i64 state), (2, .int .i64 a), (3, .int .i64 b), (4, .bp 4 0), (9, .bool v0_3.1), (10, .int .i64 v0_3.2), (11, .bool v0_4.1), (12, .int .i64 v0_4.2)] [(4, .box 24 [.int .i64 s.1, .int .i64 s.2.1, .sl (.sl (.int .i64)) s.2.2.1, .sl (.sl (.int .i64)) s.2.2.2])] ?_
  refine AW.seq ?_
  refine zo ?_
  refine zS 4 [(1, .int .i64 state), (2, .int .i64 a), (3, .int .i64 b), (4, .bp 4 0), (10, .int .i64 v0_3.2), (12, .int .i64 v0_4.2), (43, .bool ((v0_3.1 == v0_4.1) != true))] [(4, .box 24 [.int .i64 s.1, .int .i64 s.2.1, .sl (.sl (.int .i64)) s.2.2.1, .sl (.sl (.int .i64)) s.2.2.2])] ?_
  rcases zI h with ⟨hb6, h⟩ | ⟨hb6, h⟩
  ·refine zB [(1, .int .i64 state), (2, .int .i64 a), (3, .int .i64 b), (4, .bp 4 0), (47, .bool true)] [(4, .box 24 [.int .i64 s.1, .int .i64 s.2.1, .sl (.sl (.int .i64)) s.2.2.1, .sl (.sl (.int .i64)) s.2.2.2])] ?_
   refine AW.cond (b := true) rfl (fun _ => ?_) (fun hb7 => by cases hb7)
   refine zo ?_
   refine zB [(8, .bool false)] [] ?_
   refine zr ?_
   obtain rfl := Option.some.inj h
   exact zR [] [] []
  ·refine zB [(1, .int .i64 state), (2, .int .i64 a), (3, .int .i64 b), (4, .bp 4 0), (47, .bool (!(decide (v0_3.2 = v0_4.2))))] [(4, .box 24 [.int .i64 s.1, .int .i64 s.2.1, .sl (.sl (.int .i64)) s.2.2.1, .sl (.sl (.int .i64)) s.2.2.2])] ?_
   refine zQ h (fun hb8 h => ?_) (fun hb8 h => ?_)
   ·refine zo ?_
    refine zB [(8, .bool false)] [] ?_
    refine zr ?_
    obtain rfl := Option.some.inj h
    exact zR [] [] []
   ·refine zk ?_
    refine zo ?_
    refine zS 4 [(1, .int .i64 state), (2, .int .i64 a), (3, .int .i64 b), (4, .bp 4 0), (49, .agg [.int .i64 s.1, .int .i64 s.2.1, .sl (.sl (.int .i64)) s.2.2.1, .sl (.sl (.int .i64)) s.2.2.2]), (50, .int .i64 state), (51, .int .i64 a), (52, .int .i64 b)] [(4, .box 24 [.int .i64 s.1, .int .i64 s.2.1, .sl (.sl (.int .i64)) s.2.2.1, .sl (.sl (.int .i64)) s.2.2.2])] ?_
    obtain ⟨v0_5, hv9, h⟩ := Option.bind_eq_some_iff.1 h
    refine zC [] [] (hc_spec_Overwrites s state a b hv9) [(1, .int .i64 state), (2, .int .i64 a), (3, .int .i64 b), (4, .bp 4 0), (53, .tup [.bool v0_5.1, .int .i64 v0_5.2])] [(4, .box 24 [.int .i64 s.1, .int .i64 s.2.1, .sl (.sl (.int .i64)) s.2.2.1, .sl (.sl (.int .i64)) s.2.2.2])] ?_
    refine zB [(1, .int .i64 state), (2, .int .i64 a), (3, .int .i64 b), (4, .bp 4 0), (9, .bool v0_5.1), (10, .int .i64 v0_5.2)] [(4, .box 24 [.int .i64 s.1, .int .i64 s.2.1, .sl (.sl (.int .i64)) s.2.2.1, .sl (.sl (.int .i64)) s.2.2.2])] ?_
    refine zo ?_
    refine zS 4 [(2, .int .i64 a), (4, .bp 4 0), (9, .bool v0_5.1), (10, .int .i64 v0_5.2), (57, .agg [.int .i64 s.1, .int .i64 s.2.1, .sl (.sl (.int .i64)) s.2.2.1, .sl (.sl (.int .i64)) s.2.2.2]), (58, .int .i64 state), (59, .int .i64 a), (60, .int .i64 b)] [(4, .box 24 [.int .i64 s.1, .int .i64 s.2.1, .sl (.sl (.int .i64)) s.2.2.1, .sl (.sl (.int .i64)) s.2.2.2])] ?_
    obtain ⟨v0_6, hv10, h⟩ := Option.bind_eq_some_iff.1 h
    refine zC [] [] (hc_linealref01_Overwrites s state a b hv10) [(2, .int .i64 a), (4, .bp 4 0), (9, .bool v0_5.1), (10, .int .i64 v0_5.2), (61, .tup [.bool v0_6.1, .int .i64 v0_6.2])] [(4, .box 24 [.int .i64 s.1, .int .i64 s.2.1, .sl (.sl (.int .i64)) s.2.2.1, .sl (.sl (.int .i64)) s.2.2.2])] ?_
    refine zB [(2, .int .i64 a), (4, .bp 4 0), (9, .bool v0_5.1), (10, .int .i64 v0_5.2), (11, .bool v0_6.1), (12, .int .i64 v0_6.2)] [(4, .box 24 [.int .i64 s.1, .int .i64 s.2.1, .sl (.sl (.int .i64)) s.2.2.1, .sl (.sl (.int .i64)) s.2.2.2])] ?_
    refine AW.seq ?_
    refine zo ?_
    refine zS 4 [(2, .int .i64 a), (4, .bp 4 0), (10, .int .i64 v0_5.2), (12, .int .i64 v0_6.2), (67, .bool ((v0_5.1 == v0_6.1) != true))] [(4, .box 24 [.int .i64 s.1, .int .i64 s.2.1, .sl (.sl (.int .i64)) s.2.2.1, .sl (.sl (.int .i64)) s.2.2.2])] ?_
    rcases zI h with ⟨hb11, h⟩ | ⟨hb11, h⟩
    ·refine zB [(2, .int .i64 a), (4, .bp 4 0), (71, .bool true)] [(4, .box 24 [.int .i64 s.1, .int .i64 s.2.1, .sl (.sl (.int .i64)) s.2.2.1, .sl (.sl (.int .i64)) s.2.2.2])] ?_
     refine AW.cond (b := true) rfl (fun _ => ?_) (fun hb12 => by cases hb12)
     refine zo ?_
     refine zB [(8, .bool false)] [] ?_
     refine zr ?_
     obtain rfl := Option.some.inj h
     exact zR [] [] []
    ·refine zB [(2, .int .i64 a), (4, .bp 4 0), (71, .bool (!(decide (v0_5.2 = v0_6.2))))] [(4, .box 24 [.int .i64 s.1, .int .i64 s.2.1, .sl (.sl (.int .i64)) s.2.2.1, .sl (.sl (.int .i64)) s.2.2.2])] ?_
     refine zQ h (fun hb13 h => ?_) (fun hb13 h => ?_)
     ·refine zo ?_
      refine zB [(8, .bool false)] [] ?_
      refine zr ?_
      obtain rfl := Option.some.inj h
      exact zR [] [] []
     ·refine zk ?_
      refine zo ?_
      refine zS 2 [(2, .int .i64 a), (4, .bp 4 0), (73, .agg [.int .i64 s.1, .int .i64 s.2.1, .sl (.sl (.int .i64)) s.2.2.1, .sl (.sl (.int .i64)) s.2.2.2]), (74, .int .i64 a)] [(4, .box 24 [.int .i64 s.1, .int .i64 s.2.1, .sl (.sl (.int .i64)) s.2.2.1, .sl (.sl (.int .i64)) s.2.2.2])] ?_
      obtain ⟨v0_7, hv14, h⟩ := Option.bind_eq_some_iff.1 h
      refine zC [] [] (hc_spec_Reads s a hv14) [(2, .int .i64 a), (4, .bp 4 0), (75, .tup [.bool v0_7.1, .int .i64 v0_7.2])] [(4, .box 24 [.int .i64 s.1, .int .i64 s.2.1, .sl (.sl (.int .i64)) s.2.2.1, .sl (.sl (.int .i64)) s.2.2.2])] ?_
      refine zB [(2, .int .i64 a), (4, .bp 4 0), (9, .bool v0_7.1), (10, .int .i64 v0_7.2)] [(4, .box 24 [.int .i64 s.1, .int .i64 s.2.1, .sl (.sl (.int .i64)) s.2.2.1, .sl (.sl (.int .i64)) s.2.2.2])] ?_
      refine zo ?_
      refine zS 2 [(4, .bp 4 0), (9, .bool v0_7.1), (10, .int .i64 v0_7.2), (79, .agg [.int .i64 s.1, .int .i64 s.2.1, .sl (.sl (.int .i64)) s.2.2.1, .sl (.sl (.int .i64)) s.2.2.2]), (80, .int .i64 a)] [(4, .box 24 [.int .i64 s.1, .int .i64 s.2.1, .sl (.sl (.int .i64)) s.2.2.1, .sl (.sl (.int .i64)) s.2.2.2])] ?_
      obtain ⟨v0_8, hv15, h⟩ := Option.bind_eq_some_iff.1 h
      refine zC [] [] (hc_linealref01_Reads s a hv15) [(4, .bp 4 0), (9, .bool v0_7.1), (10, .int .i64 v0_7.2), (81, .tup [.bool v0_8.1, .int .i64 v0_8.2])] [(4, .box 24 [.int .i64 s.1, .int .i64 s.2.1, .sl (.sl (.int .i64)) s.2.2.1, .sl (.sl (.int .i64)) s.2.2.2])] ?_
      refine zB [(4, .bp 4 0), (9, .bool v0_7.1), (10, .int .i64 v0_7.2), (11, .bool v0_8.1), (12, .int .i64 v0_8.2)] [(4, .box 24 [.int .i64 s.1, .int .i64 s.2.1, .sl (.sl (.int .i64)) s.2.2.1, .sl (.sl (.int .i64)) s.2.2.2])] ?_
      refine zo ?_
      refine zS 1 [(4, .bp 4 0), (9, .bool v0_7.1), (10, .int .i64 v0_7.2), (11, .bool v0_8.1), (12, .int .i64 v0_8.2), (85, .agg [.int .i64 s.1, .int .i64 s.2.1, .sl (.sl (.int .i64)) s.2.2.1, .sl (.sl (.int .i64)) s.2.2.2])] [(4, .box 24 [.int .i64 s.1, .int .i64 s.2.1, .sl (.sl (.int .i64)) s.2.2.1, .sl (.sl (.int .i64)) s.2.2.2])] ?_
      obtain ⟨v0_9, hv16, h⟩ := Option.bind_eq_some_iff.1 h
      refine zC [] [] (hc_spec_Meddles s hv16) [(4, .bp 4 0), (9, .bool v0_7.1), (10, .int .i64 v0_7.2), (11, .bool v0_8.1), (12, .int .i64 v0_8.2), (86, .tup [.int .i64 v0_9.1, .int .i64 v0_9.2.1, .int .i64 v0_9.2.2.1, .int .i64 v0_9.2.2.2])] [(4, .box 24 [.int .i64 s.1, .int .i64 s.2.1, .sl (.sl (.int .i64)) s.2.2.1, .sl (.sl (.int .i64)) s.2.2.2])] ?_
      refine zB [(4, .bp 4 0), (9, .bool v0_7.1), (10, .int .i64 v0_7.2), (11, .bool v0_8.1), (12, .int .i64 v0_8.2), (13, .int .i64 v0_9.1), (14, .int .i64 v0_9.2.1), (15, .int .i64 v0_9.2.2.1), (16, .int .i64 v0_9.2.2.2)] [(4, .box 24 [.int .i64 s.1, .int .i64 s.2.1, .sl (.sl (.int .i64)) s.2.2.1, .sl (.sl (.int .i64)) s.2.2.2])] ?_
      refine zo ?_
      refine zS 1 [(9, .bool v0_7.1), (10, .int .i64 v0_7.2), (11, .bool v0_8.1), (12, .int .i64 v0_8.2), (13, .int .i64 v0_9.1), (14, .int .i64 v0_9.2.1), (15, .int .i64 v0_9.2.2.1), (16, .int .i64 v0_9.2.2.2), (92, .agg [.int .i64 s.1, .int .i64 s.2.1, .sl (.sl (.int .i64)) s.2.2.1, .sl (.sl (.int .i64)) s.2.2.2])] [] ?_
      obtain ⟨v0_10, hv17, h⟩ := Option.bind_eq_some_iff.1 h
      refine zC [] [] (hc_linealref01_Meddles s hv17) [(9, .bool v0_7.1), (10, .int .i64 v0_7.2), (11, .bool v0_8.1), (12, .int .i64 v0_8.2), (13, .int .i64 v0_9.1), (14, .int .i64 v0_9.2.1), (15, .int .i64 v0_9.2.2.1), (16, .int .i64 v0_9.2.2.2), (93, .tup [.int .i64 v0_10.1, .int .i64 v0_10.2.1, .int .i64 v0_10.2.2.1, .int .i64 v0_10.2.2.2])] [] ?_
      refine zB [(9, .bool v0_7.1), (10, .int .i64 v0_7.2), (11, .bool v0_8.1), (12, .int .i64 v0_8.2), (13, .int .i64 v0_9.1), (14, .int .i64 v0_9.2.1), (15, .int .i64 v0_9.2.2.1), (16, .int .i64 v0_9.2.2.2), (17, .int .i64 v0_10.1), (18, .int .i64 v0_10.2.1), (19, .int .i64 v0_10.2.2.1), (20, .int .i64 v0_10.2.2.2)] [] ?_
      refine zo ?_
      refine zS 4 [(10, .int .i64 v0_7.2), (12, .int .i64 v0_8.2), (13, .int .i64 v0_9.1), (14, .int .i64 v0_9.2.1), (15, .int .i64 v0_9.2.2.1), (16, .int .i64 v0_9.2.2.2), (17, .int .i64 v0_10.1), (18, .int .i64 v0_10.2.1), (19, .int .i64 v0_10.2.2.1), (20, .int .i64 v0_10.2.2.2), (101, .bool ((v0_7.1 == v0_8.1) != false))] [] ?_
      rcases zI h with ⟨hb18, h⟩ | ⟨hb18, h⟩
      ·refine zS 5 [(13, .int .i64 v0_9.1), (14, .int .i64 v0_9.2.1), (15, .int .i64 v0_9.2.2.1), (16, .int .i64 v0_9.2.2.2), (17, .int .i64 v0_10.1), (18, .int .i64 v0_10.2.1), (19, .int .i64 v0_10.2.2.1), (20, .int .i64 v0_10.2.2.2), (106, .bool (decide (v0_7.2 = v0_8.2)))] [] ?_
       rcases zI h with ⟨hb19, h⟩ | ⟨hb19, h⟩
       ·refine zS 5 [(14, .int .i64 v0_9.2.1), (15, .int .i64 v0_9.2.2.1), (16, .int .i64 v0_9.2.2.2), (18, .int .i64 v0_10.2.1), (19, .int .i64 v0_10.2.2.1), (20, .int .i64 v0_10.2.2.2), (111, .bool (decide (v0_9.1 = v0_10.1)))] [] ?_
        rcases zI h with ⟨hb20, h⟩ | ⟨hb20, h⟩
        ·refine zS 5 [(15, .int .i64 v0_9.2.2.1), (16, .int .i64 v0_9.2.2.2), (19, .int .i64 v0_10.2.2.1), (20, .int .i64 v0_10.2.2.2), (116, .bool (decide (v0_9.2.1 = v0_10.2.1)))] [] ?_
         rcases zI h with ⟨hb21, h⟩ | ⟨hb21, h⟩
         ·refine zS 5 [(16, .int .i64 v0_9.2.2.2), (20, .int .i64 v0_10.2.2.2), (121, .bool (decide (v0_9.2.2.1 = v0_10.2.2.1)))] [] ?_
          rcases zI h with ⟨hb22, h⟩ | ⟨hb22, h⟩
          ·refine zS 5 [(126, .bool (decide (v0_9.2.2.2 = v0_10.2.2.2)))] [] ?_
           rcases zI h with ⟨hb23, h⟩ | ⟨hb23, h⟩
           ·refine zT [(126, .bool true)] [] gt ?_
            obtain ⟨v0_11, hv24, h⟩ := Option.bind_eq_some_iff.1 h
            refine zG [] [] (hc_lineallaw01_Awake hv24) [(126, .bool true), (127, .bool v0_11)] [] ?_
            refine zB [(8, .bool v0_11)] [] ?_
            refine AW.ret ?_
            obtain rfl := Option.some.inj h
            exact zR [] [] []
           ·refine zB [(8, .bool false)] [] ?_
            refine AW.ret ?_
            obtain rfl := Option.some.inj h
            exact zR [] [] []
          ·refine zS 6 [(126, .bool false), (127, .cv (undef))] [] ?_
           refine zB [(8, .bool false)] [] ?_
           refine AW.ret ?_
           obtain rfl := Option.some.inj h
           exact zR [] [] []
         ·refine zS 6 [(20, .int .i64 v0_10.2.2.2), (121, .bool false), (122, .cv (undef))] [] ?_
          refine zB [(8, .bool false)] [] ?_
          refine AW.ret ?_
          obtain rfl := Option.some.inj h
          exact zR [] [] []
        ·refine zS 6 [(16, .int .i64 v0_9.2.2.2), (19, .int .i64 v0_10.2.2.1), (20, .int .i64 v0_10.2.2.2), (116, .bool false), (117, .cv (undef))] [] ?_
         refine zS 6 [(121, .bool false), (122, .cv (undef)), (123, .cv (undef))] [] ?_
         refine zB [(8, .bool false)] [] ?_
         refine AW.ret ?_
         obtain rfl := Option.some.inj h
         exact zR [] [] []
       ·refine zS 6 [(15, .int .i64 v0_9.2.2.1), (16, .int .i64 v0_9.2.2.2), (18, .int .i64 v0_10.2.1), (19, .int .i64 v0_10.2.2.1), (20, .int .i64 v0_10.2.2.2), (111, .bool false), (112, .cv (undef))] [] ?_
        refine zS 6 [(16, .int .i64 v0_9.2.2.2), (20, .int .i64 v0_10.2.2.2), (116, .bool false), (117, .cv (undef)), (118, .cv (undef))] [] ?_
        refine zS 6 [(121, .bool false), (124, .cv (undef))] [] ?_
        refine zB [(8, .bool false)] [] ?_
        refine AW.ret ?_
        obtain rfl := Option.some.inj h
        exact zR [] [] []
      ·refine zS 6 [(14, .int .i64 v0_9.2.1), (15, .int .i64 v0_9.2.2.1), (16, .int .i64 v0_9.2.2.2), (17, .int .i64 v0_10.1), (18, .int .i64 v0_10.2.1), (19, .int .i64 v0_10.2.2.1), (20, .int .i64 v0_10.2.2.2), (106, .bool false), (107, .cv (undef))] [] ?_
       refine zS 6 [(15, .int .i64 v0_9.2.2.1), (16, .int .i64 v0_9.2.2.2), (19, .int .i64 v0_10.2.2.1), (20, .int .i64 v0_10.2.2.2), (111, .bool false), (112, .cv (undef)), (113, .cv (undef))] [] ?_
       refine zS 6 [(16, .int .i64 v0_9.2.2.2), (20, .int .i64 v0_10.2.2.2), (116, .bool false), (119, .cv (undef))] [] ?_
       refine zS 8 [(126, .bool false), (127, .cv (undef))] [] ?_
       refine zB [(8, .bool false)] [] ?_
       refine AW.ret ?_
       obtain rfl := Option.some.inj h
       exact zR [] [] []

end Go.Proofs.Ytfmokmhphfdbpaa
