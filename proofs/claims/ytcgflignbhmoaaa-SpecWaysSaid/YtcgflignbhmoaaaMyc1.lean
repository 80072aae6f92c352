/-
  Made by wip/tool/dc.py out of the print of the program: contracts.
-/
import Derived.Test.YtcgflignbhmoaaaQp
import Derived.Test.YtcgflignbhmoaaaShs
namespace Go.Proofs.Ytcgflignbhmoaaa
open Go.RowKit

set_option linter.unusedSimpArgs false
set_option linter.unusedVariables false
set_option linter.constructorNameAsVariable false

set_option maxRecDepth 100000
set_option maxHeartbeats 2000000

theorem hc_lineallaw01_wide (l : List (List Int)) {r : Bool} (h : lineallaw01_wide l = some r) : HC Try.prog 55 [] [.sl (.sl (.int .i64)) l] [] (.bool r) := by
 unfold lineallaw01_wide at h
 refine zH Try.func55 [.tmp 2] 18 ?_
 refine zo ?_
 refine zB [(0, .sl (.sl (.int .i64)) l)] [] ?_
 refine AW.have1 (fun _ : Unit => lineallaw01_wide_k1 l = some r) (fun _ => ⟨fr [(0, .sl (.sl (.int .i64)) l)], hpGet [], gt⟩) (fun _ h => ?_) (fun hk_lineallaw01_wide_k1 => ?_)
 ·as_aux_lemma =>
   unfold lineallaw01_wide_k1 at h
   refine zo ?_
   refine zB [(2, .bool (decide (40 < (l.length : Int))))] [] ?_
   refine AW.ret ?_
   obtain rfl := Option.some.inj h
   exact zR [] [] []
 ·refine AW.seq ?_
  refine zo ?_
  refine zB [(0, .sl (.sl (.int .i64)) l), (5, .sl (.sl (.int .i64)) l), (6, .int .i64 (l.length : Int)), (7, .int .i64 0)] [] ?_
  refine AW.block ?_
  obtain ⟨rv5, hw1, ho2⟩ := Option.bind_eq_some_iff.1 h
  refine AW.loopO (lineallaw01_wide_b1 l) (fun st1 => ⟨fr [(0, .sl (.sl (.int .i64)) l), (5, .sl (.sl (.int .i64)) l), (6, .int .i64 (l.length : Int)), (7, .int .i64 st1)], hpGet [], gt⟩) 0 hw1 (zL [] [] []) ?_
  as_aux_lemma =>
   intro st1 x4 h hd3
   unfold lineallaw01_wide_b1 at h
   refine zo ?_
   refine zB [(0, .sl (.sl (.int .i64)) l), (5, .sl (.sl (.int .i64)) l), (6, .int .i64 (l.length : Int)), (7, .int .i64 st1), (8, .bool (decide (st1 < (l.length : Int))))] [] ?_
   refine AW.seq ?_
   refine zQ h (fun hb6 h => ?_) (fun hb6 h => ?_)
   ·refine zk ?_
    refine AW.seq ?_
    refine AW.block ?_
    refine zo ?_
    obtain ⟨c7, h⟩ := ck_some.1 h
    obtain ⟨c8, h⟩ := ck_some.1 h
    refine zB [(0, .sl (.sl (.int .i64)) l), (4, .sl (.int .i64) (l.getD st1.toNat [])), (5, .sl (.sl (.int .i64)) l), (6, .int .i64 (l.length : Int)), (7, .int .i64 st1)] [] ?_
    refine zo ?_
    refine zB [(0, .sl (.sl (.int .i64)) l), (5, .sl (.sl (.int .i64)) l), (6, .int .i64 (l.length : Int)), (7, .int .i64 st1), (13, .bool (decide (40 < ((l.getD st1.toNat []).length : Int))))] [] ?_
    refine zQ h (fun hb9 h => ?_) (fun hb9 h => ?_)
    ·refine zo ?_
     refine zB [(2, .bool true)] [] ?_
     refine AW.ret ?_
     refine ablock_r ?_
     refine athen_r ?_
     obtain rfl := Option.some.inj h
     rw [← hd3 _ rfl] at ho2
     have h := ho2
     try simp only at h
     refine athen_r ?_
     refine ablock_r ?_
     refine athen_r ?_
     obtain rfl := Option.some.inj h
     exact zR [] [] []
    ·refine zm ?_
     refine athen_n ?_
     refine AW.ops ?_
     obtain ⟨c10, h⟩ := ck_some.1 h
     refine zA [(0, .sl (.sl (.int .i64)) l), (5, .sl (.sl (.int .i64)) l), (6, .int .i64 (l.length : Int)), (7, .int .i64 (st1 + 1))] [] ?_
     obtain rfl := Option.some.inj h
     exact ⟨_, rfl, zL [] [] []⟩
   ·refine AW.exit ?_
    refine athen_e ?_
    obtain rfl := Option.some.inj h
    rw [← hd3 _ rfl] at ho2
    have h := ho2
    try simp only at h
    refine athen_e ?_
    refine ablock_s ?_
    refine athen_n ?_
    exact AW.weaken (zL [] [] []) (hk_lineallaw01_wide_k1 () h)

theorem hc_lineallaw01_Long (s : Int × Int × (List (List Int)) × (List (List Int))) {r : Bool} (h : lineallaw01_Long s = some r) : HC Try.prog 16 [] [.agg [.int .i64 s.1, .int .i64 s.2.1, .sl (.sl (.int .i64)) s.2.2.1, .sl (.sl (.int .i64)) s.2.2.2]] [] (.bool r) := by
 unfold lineallaw01_Long at h
 refine zH Try.func16 [.tmp 2] 11 ?_
 refine zo ?_
 refine zB [(1, .bp 1 0)] [(1, .box 24 [.int .i64 s.1, .int .i64 s.2.1, .sl (.sl (.int .i64)) s.2.2.1, .sl (.sl (.int .i64)) s.2.2.2])] ?_
 refine zo ?_
 refine zS 2 [(1, .bp 1 0), (4, .sl (.sl (.int .i64)) s.2.2.1)] [(1, .box 24 [.int .i64 s.1, .int .i64 s.2.1, .sl (.sl (.int .i64)) s.2.2.1, .sl (.sl (.int .i64)) s.2.2.2])] ?_
 obtain ⟨v0, hv1, h⟩ := Option.bind_eq_some_iff.1 h
 refine zC [] [] (hc_lineallaw01_wide s.2.2.1 hv1) [(1, .bp 1 0), (5, .bool v0)] [(1, .box 24 [.int .i64 s.1, .int .i64 s.2.1, .sl (.sl (.int .i64)) s.2.2.1, .sl (.sl (.int .i64)) s.2.2.2])] ?_
 refine zS 1 [(1, .bp 1 0), (6, .bool v0)] [(1, .box 24 [.int .i64 s.1, .int .i64 s.2.1, .sl (.sl (.int .i64)) s.2.2.1, .sl (.sl (.int .i64)) s.2.2.2])] ?_
 rcases zI h with ⟨hb2, h⟩ | ⟨hb2, h⟩
 ·refine zB [(2, .bool true)] [] ?_
  refine AW.ret ?_
  obtain rfl := Option.some.inj h
  exact zR [] [] []
 ·refine zS 2 [(6, .bool false), (8, .sl (.sl (.int .i64)) s.2.2.2)] [] ?_
  obtain ⟨v0_2, hv3, h⟩ := Option.bind_eq_some_iff.1 h
  refine zG [] [] (hc_lineallaw01_wide s.2.2.2 hv3) [(6, .bool false), (9, .bool v0_2)] [] ?_
  refine zB [(2, .bool v0_2)] [] ?_
  refine AW.ret ?_
  obtain rfl := Option.some.inj h
  exact zR [] [] []

theorem hc_spec_machine_isState (m : Int × Int × (List (List Int)) × (List (List Int))) (n : Int) {r : Bool} (h : spec_machine_isState m n = some r) : HC Try.prog 64 [] [.agg [.int .i64 m.1, .int .i64 m.2.1, .sl (.sl (.int .i64)) m.2.2.1, .sl (.sl (.int .i64)) m.2.2.2], .int .i64 n] [] (.bool r) := by
 unfold spec_machine_isState at h
 refine zH Try.func64 [.tmp 4] 13 ?_
 refine zo ?_
 refine zB [(1, .int .i64 n), (2, .bp 2 0)] [(2, .box 60 [.int .i64 m.1, .int .i64 m.2.1, .sl (.sl (.int .i64)) m.2.2.1, .sl (.sl (.int .i64)) m.2.2.2])] ?_
 refine zo ?_
 refine zS 3 [(1, .int .i64 n), (2, .bp 2 0), (7, .bool (decide (0 ≤ n)))] [(2, .box 60 [.int .i64 m.1, .int .i64 m.2.1, .sl (.sl (.int .i64)) m.2.2.1, .sl (.sl (.int .i64)) m.2.2.2])] ?_
 rcases zI h with ⟨hb1, h⟩ | ⟨hb1, h⟩
 ·refine zS 5 [(12, .bool (decide (n < m.1)))] [] ?_
  refine zB [(4, .bool (decide (n < m.1)))] [] ?_
  refine AW.ret ?_
  obtain rfl := Option.some.inj h
  exact zR [] [] []
 ·refine zS 4 [(7, .bool false), (11, .cv (undef))] [] ?_
  refine zB [(4, .bool false)] [] ?_
  refine AW.ret ?_
  obtain rfl := Option.some.inj h
  exact zR [] [] []

theorem hc_spec_all (is0 : Int × Int × (List (List Int)) × (List (List Int))) (numbers : List Int) {r : Bool} (h : spec_all is0 numbers = some r) : HC Try.prog 94 [] [.fn (.func 64) [.agg [.int .i64 is0.1, .int .i64 is0.2.1, .sl (.sl (.int .i64)) is0.2.2.1, .sl (.sl (.int .i64)) is0.2.2.2]] [], .sl (.int .i64) numbers] [] (.bool r) := by
 unfold spec_all at h
 refine zH Try.func94 [.tmp 4] 18 ?_
 refine zo ?_
 refine zB [(0, .fn (.func 64) [.agg [.int .i64 is0.1, .int .i64 is0.2.1, .sl (.sl (.int .i64)) is0.2.2.1, .sl (.sl (.int .i64)) is0.2.2.2]] []), (1, .sl (.int .i64) numbers)] [] ?_
 refine AW.have1 (fun _ : Unit => spec_all_k1 = some r) (fun _ => ⟨fr [], hpGet [], gt⟩) (fun _ h => ?_) (fun hk_spec_all_k1 => ?_)
 ·as_aux_lemma =>
   unfold spec_all_k1 at h
   refine zo ?_
   refine zB [(4, .bool true)] [] ?_
   refine AW.ret ?_
   obtain rfl := Option.some.inj h
   exact zR [] [] []
 ·refine AW.seq ?_
  refine zo ?_
  refine zB [(0, .fn (.func 64) [.agg [.int .i64 is0.1, .int .i64 is0.2.1, .sl (.sl (.int .i64)) is0.2.2.1, .sl (.sl (.int .i64)) is0.2.2.2]] []), (7, .sl (.int .i64) numbers), (8, .int .i64 (numbers.length : Int)), (9, .int .i64 0)] [] ?_
  refine AW.block ?_
  obtain ⟨rv5, hw1, ho2⟩ := Option.bind_eq_some_iff.1 h
  refine AW.loopO (spec_all_b1 is0 numbers) (fun st1 => ⟨fr [(0, .fn (.func 64) [.agg [.int .i64 is0.1, .int .i64 is0.2.1, .sl (.sl (.int .i64)) is0.2.2.1, .sl (.sl (.int .i64)) is0.2.2.2]] []), (7, .sl (.int .i64) numbers), (8, .int .i64 (numbers.length : Int)), (9, .int .i64 st1)], hpGet [], gt⟩) 0 hw1 (zL [] [] []) ?_
  as_aux_lemma =>
   intro st1 x4 h hd3
   unfold spec_all_b1 at h
   refine zo ?_
   refine zB [(0, .fn (.func 64) [.agg [.int .i64 is0.1, .int .i64 is0.2.1, .sl (.sl (.int .i64)) is0.2.2.1, .sl (.sl (.int .i64)) is0.2.2.2]] []), (7, .sl (.int .i64) numbers), (8, .int .i64 (numbers.length : Int)), (9, .int .i64 st1), (10, .bool (decide (st1 < (numbers.length : Int))))] [] ?_
   refine AW.seq ?_
   refine zQ h (fun hb6 h => ?_) (fun hb6 h => ?_)
   ·refine zk ?_
    refine AW.seq ?_
    refine AW.block ?_
    refine zo ?_
    obtain ⟨c7, h⟩ := ck_some.1 h
    obtain ⟨c8, h⟩ := ck_some.1 h
    refine zB [(0, .fn (.func 64) [.agg [.int .i64 is0.1, .int .i64 is0.2.1, .sl (.sl (.int .i64)) is0.2.2.1, .sl (.sl (.int .i64)) is0.2.2.2]] []), (6, .int .i64 (numbers.getD st1.toNat 0)), (7, .sl (.int .i64) numbers), (8, .int .i64 (numbers.length : Int)), (9, .int .i64 st1)] [] ?_
    refine zo ?_
    refine zS 2 [(0, .fn (.func 64) [.agg [.int .i64 is0.1, .int .i64 is0.2.1, .sl (.sl (.int .i64)) is0.2.2.1, .sl (.sl (.int .i64)) is0.2.2.2]] []), (7, .sl (.int .i64) numbers), (8, .int .i64 (numbers.length : Int)), (9, .int .i64 st1), (13, .fn (.func 64) [.agg [.int .i64 is0.1, .int .i64 is0.2.1, .sl (.sl (.int .i64)) is0.2.2.1, .sl (.sl (.int .i64)) is0.2.2.2]] []), (14, .int .i64 (numbers.getD st1.toNat 0))] [] ?_
    obtain ⟨v0, hv9, h⟩ := Option.bind_eq_some_iff.1 h
    refine zC [] [] (hc_spec_machine_isState is0 (numbers.getD st1.toNat 0) hv9) [(0, .fn (.func 64) [.agg [.int .i64 is0.1, .int .i64 is0.2.1, .sl (.sl (.int .i64)) is0.2.2.1, .sl (.sl (.int .i64)) is0.2.2.2]] []), (7, .sl (.int .i64) numbers), (8, .int .i64 (numbers.length : Int)), (9, .int .i64 st1), (15, .bool v0)] [] ?_
    refine zB [(0, .fn (.func 64) [.agg [.int .i64 is0.1, .int .i64 is0.2.1, .sl (.sl (.int .i64)) is0.2.2.1, .sl (.sl (.int .i64)) is0.2.2.2]] []), (7, .sl (.int .i64) numbers), (8, .int .i64 (numbers.length : Int)), (9, .int .i64 st1), (16, .bool (!v0))] [] ?_
    refine zQ h (fun hb10 h => ?_) (fun hb10 h => ?_)
    ·refine zo ?_
     refine zB [(4, .bool false)] [] ?_
     refine AW.ret ?_
     refine ablock_r ?_
     refine athen_r ?_
     obtain rfl := Option.some.inj h
     rw [← hd3 _ rfl] at ho2
     have h := ho2
     try simp only at h
     refine athen_r ?_
     refine ablock_r ?_
     refine athen_r ?_
     obtain rfl := Option.some.inj h
     exact zR [] [] []
    ·refine zm ?_
     refine athen_n ?_
     refine AW.ops ?_
     obtain ⟨c11, h⟩ := ck_some.1 h
     refine zA [(0, .fn (.func 64) [.agg [.int .i64 is0.1, .int .i64 is0.2.1, .sl (.sl (.int .i64)) is0.2.2.1, .sl (.sl (.int .i64)) is0.2.2.2]] []), (7, .sl (.int .i64) numbers), (8, .int .i64 (numbers.length : Int)), (9, .int .i64 (st1 + 1))] [] ?_
     obtain rfl := Option.some.inj h
     exact ⟨_, rfl, zL [] [] []⟩
   ·refine AW.exit ?_
    refine athen_e ?_
    obtain rfl := Option.some.inj h
    rw [← hd3 _ rfl] at ho2
    have h := ho2
    try simp only at h
    refine athen_e ?_
    refine ablock_s ?_
    refine athen_n ?_
    exact AW.weaken (zL [] [] []) (hk_spec_all_k1 () h)

theorem hc_spec_machine_isTable (m : Int × Int × (List (List Int)) × (List (List Int))) (table : List (List Int)) (is0 : Int × Int × (List (List Int)) × (List (List Int))) {r : Bool} (h : spec_machine_isTable m table is0 = some r) : HC Try.prog 63 [] [.agg [.int .i64 m.1, .int .i64 m.2.1, .sl (.sl (.int .i64)) m.2.2.1, .sl (.sl (.int .i64)) m.2.2.2], .sl (.sl (.int .i64)) table, .fn (.func 64) [.agg [.int .i64 is0.1, .int .i64 is0.2.1, .sl (.sl (.int .i64)) is0.2.2.1, .sl (.sl (.int .i64)) is0.2.2.2]] []] [] (.bool r) := by
 unfold spec_machine_isTable at h
 refine zH Try.func63 [.tmp 6] 32 ?_
 refine zo ?_
 refine zB [(1, .sl (.sl (.int .i64)) table), (2, .fn (.func 64) [.agg [.int .i64 is0.1, .int .i64 is0.2.1, .sl (.sl (.int .i64)) is0.2.2.1, .sl (.sl (.int .i64)) is0.2.2.2]] []), (3, .bp 3 0)] [(3, .box 60 [.int .i64 m.1, .int .i64 m.2.1, .sl (.sl (.int .i64)) m.2.2.1, .sl (.sl (.int .i64)) m.2.2.2])] ?_
 refine AW.seq ?_
 refine zo ?_
 refine zB [(1, .sl (.sl (.int .i64)) table), (2, .fn (.func 64) [.agg [.int .i64 is0.1, .int .i64 is0.2.1, .sl (.sl (.int .i64)) is0.2.2.1, .sl (.sl (.int .i64)) is0.2.2.2]] []), (3, .bp 3 0), (13, .bool (!(decide ((table.length : Int) = m.1))))] [(3, .box 60 [.int .i64 m.1, .int .i64 m.2.1, .sl (.sl (.int .i64)) m.2.2.1, .sl (.sl (.int .i64)) m.2.2.2])] ?_
 refine zQ h (fun hb1 h => ?_) (fun hb1 h => ?_)
 ·refine zo ?_
  refine zB [(6, .bool false)] [] ?_
  refine zr ?_
  obtain rfl := Option.some.inj h
  exact zR [] [] []
 ·refine zk ?_
  refine AW.have1 (fun _ : Unit => spec_machine_isTable_k1 = some r) (fun _ => ⟨fr [], hpGet [], gt⟩) (fun _ h => ?_) (fun hk_spec_machine_isTable_k1 => ?_)
  ·as_aux_lemma =>
    unfold spec_machine_isTable_k1 at h
    refine zo ?_
    refine zB [(6, .bool true)] [] ?_
    refine AW.ret ?_
    obtain rfl := Option.some.inj h
    exact zR [] [] []
  ·refine AW.seq ?_
   refine zo ?_
   refine zB [(2, .fn (.func 64) [.agg [.int .i64 is0.1, .int .i64 is0.2.1, .sl (.sl (.int .i64)) is0.2.2.1, .sl (.sl (.int .i64)) is0.2.2.2]] []), (3, .bp 3 0), (14, .sl (.sl (.int .i64)) table), (15, .int .i64 (table.length : Int)), (16, .int .i64 0)] [(3, .box 60 [.int .i64 m.1, .int .i64 m.2.1, .sl (.sl (.int .i64)) m.2.2.1, .sl (.sl (.int .i64)) m.2.2.2])] ?_
   refine AW.block ?_
   obtain ⟨rv6, hw2, ho3⟩ := Option.bind_eq_some_iff.1 h
   refine AW.loopO (spec_machine_isTable_b1 m table is0) (fun st1 => ⟨fr [(2, .fn (.func 64) [.agg [.int .i64 is0.1, .int .i64 is0.2.1, .sl (.sl (.int .i64)) is0.2.2.1, .sl (.sl (.int .i64)) is0.2.2.2]] []), (3, .bp 3 0), (14, .sl (.sl (.int .i64)) table), (15, .int .i64 (table.length : Int)), (16, .int .i64 st1)], hpGet [(3, .box 60 [.int .i64 m.1, .int .i64 m.2.1, .sl (.sl (.int .i64)) m.2.2.1, .sl (.sl (.int .i64)) m.2.2.2])], gt⟩) 0 hw2 (zL [] [] []) ?_
   as_aux_lemma =>
    intro st1 x5 h hd4
    unfold spec_machine_isTable_b1 at h
    refine zo ?_
    refine zB [(2, .fn (.func 64) [.agg [.int .i64 is0.1, .int .i64 is0.2.1, .sl (.sl (.int .i64)) is0.2.2.1, .sl (.sl (.int .i64)) is0.2.2.2]] []), (3, .bp 3 0), (14, .sl (.sl (.int .i64)) table), (15, .int .i64 (table.length : Int)), (16, .int .i64 st1), (17, .bool (decide (st1 < (table.length : Int))))] [(3, .box 60 [.int .i64 m.1, .int .i64 m.2.1, .sl (.sl (.int .i64)) m.2.2.1, .sl (.sl (.int .i64)) m.2.2.2])] ?_
    refine AW.seq ?_
    refine zQ h (fun hb7 h => ?_) (fun hb7 h => ?_)
    ·refine zk ?_
     refine AW.seq ?_
     refine AW.block ?_
     refine zo ?_
     obtain ⟨c8, h⟩ := ck_some.1 h
     obtain ⟨c9, h⟩ := ck_some.1 h
     refine zB [(2, .fn (.func 64) [.agg [.int .i64 is0.1, .int .i64 is0.2.1, .sl (.sl (.int .i64)) is0.2.2.1, .sl (.sl (.int .i64)) is0.2.2.2]] []), (3, .bp 3 0), (8, .sl (.int .i64) (table.getD st1.toNat [])), (14, .sl (.sl (.int .i64)) table), (15, .int .i64 (table.length : Int)), (16, .int .i64 st1)] [(3, .box 60 [.int .i64 m.1, .int .i64 m.2.1, .sl (.sl (.int .i64)) m.2.2.1, .sl (.sl (.int .i64)) m.2.2.2])] ?_
     refine zo ?_
     refine zS 5 [(2, .fn (.func 64) [.agg [.int .i64 is0.1, .int .i64 is0.2.1, .sl (.sl (.int .i64)) is0.2.2.1, .sl (.sl (.int .i64)) is0.2.2.2]] []), (3, .bp 3 0), (8, .sl (.int .i64) (table.getD st1.toNat [])), (14, .sl (.sl (.int .i64)) table), (15, .int .i64 (table.length : Int)), (16, .int .i64 st1), (24, .bool (!(decide (((table.getD st1.toNat []).length : Int) = m.2.1))))] [(3, .box 60 [.int .i64 m.1, .int .i64 m.2.1, .sl (.sl (.int .i64)) m.2.2.1, .sl (.sl (.int .i64)) m.2.2.2])] ?_
     refine zS 1 [(2, .fn (.func 64) [.agg [.int .i64 is0.1, .int .i64 is0.2.1, .sl (.sl (.int .i64)) is0.2.2.1, .sl (.sl (.int .i64)) is0.2.2.2]] []), (3, .bp 3 0), (8, .sl (.int .i64) (table.getD st1.toNat [])), (14, .sl (.sl (.int .i64)) table), (15, .int .i64 (table.length : Int)), (16, .int .i64 st1), (25, .bool (!(decide (((table.getD st1.toNat []).length : Int) = m.2.1))))] [(3, .box 60 [.int .i64 m.1, .int .i64 m.2.1, .sl (.sl (.int .i64)) m.2.2.1, .sl (.sl (.int .i64)) m.2.2.2])] ?_
     rcases zI h with ⟨hb10, h⟩ | ⟨hb10, h⟩
     ·refine zS 4 [(2, .fn (.func 64) [.agg [.int .i64 is0.1, .int .i64 is0.2.1, .sl (.sl (.int .i64)) is0.2.2.1, .sl (.sl (.int .i64)) is0.2.2.2]] []), (3, .bp 3 0), (14, .sl (.sl (.int .i64)) table), (15, .int .i64 (table.length : Int)), (16, .int .i64 st1), (25, .bool true), (29, .cv (undef))] [(3, .box 60 [.int .i64 m.1, .int .i64 m.2.1, .sl (.sl (.int .i64)) m.2.2.1, .sl (.sl (.int .i64)) m.2.2.2])] ?_
      refine zB [(2, .fn (.func 64) [.agg [.int .i64 is0.1, .int .i64 is0.2.1, .sl (.sl (.int .i64)) is0.2.2.1, .sl (.sl (.int .i64)) is0.2.2.2]] []), (3, .bp 3 0), (14, .sl (.sl (.int .i64)) table), (15, .int .i64 (table.length : Int)), (16, .int .i64 st1), (30, .bool true)] [(3, .box 60 [.int .i64 m.1, .int .i64 m.2.1, .sl (.sl (.int .i64)) m.2.2.1, .sl (.sl (.int .i64)) m.2.2.2])] ?_
      refine AW.cond (b := true) rfl (fun _ => ?_) (fun hb11 => by cases hb11)
      refine zo ?_
      refine zB [(6, .bool false)] [] ?_
      refine AW.ret ?_
      refine ablock_r ?_
      refine athen_r ?_
      obtain rfl := Option.some.inj h
      rw [← hd4 _ rfl] at ho3
      have h := ho3
      try simp only at h
      refine athen_r ?_
      refine ablock_r ?_
      refine athen_r ?_
      obtain rfl := Option.some.inj h
      exact zR [] [] []
     ·refine zS 2 [(2, .fn (.func 64) [.agg [.int .i64 is0.1, .int .i64 is0.2.1, .sl (.sl (.int .i64)) is0.2.2.1, .sl (.sl (.int .i64)) is0.2.2.2]] []), (3, .bp 3 0), (14, .sl (.sl (.int .i64)) table), (15, .int .i64 (table.length : Int)), (16, .int .i64 st1), (25, .bool false), (26, .fn (.func 64) [.agg [.int .i64 is0.1, .int .i64 is0.2.1, .sl (.sl (.int .i64)) is0.2.2.1, .sl (.sl (.int .i64)) is0.2.2.2]] []), (27, .sl (.int .i64) (table.getD st1.toNat []))] [(3, .box 60 [.int .i64 m.1, .int .i64 m.2.1, .sl (.sl (.int .i64)) m.2.2.1, .sl (.sl (.int .i64)) m.2.2.2])] ?_
      obtain ⟨v0, hv12, h⟩ := Option.bind_eq_some_iff.1 h
      refine zG [] [] (hc_spec_all is0 (table.getD st1.toNat []) hv12) [(2, .fn (.func 64) [.agg [.int .i64 is0.1, .int .i64 is0.2.1, .sl (.sl (.int .i64)) is0.2.2.1, .sl (.sl (.int .i64)) is0.2.2.2]] []), (3, .bp 3 0), (14, .sl (.sl (.int .i64)) table), (15, .int .i64 (table.length : Int)), (16, .int .i64 st1), (25, .bool false), (28, .bool v0)] [(3, .box 60 [.int .i64 m.1, .int .i64 m.2.1, .sl (.sl (.int .i64)) m.2.2.1, .sl (.sl (.int .i64)) m.2.2.2])] ?_
      refine zB [(2, .fn (.func 64) [.agg [.int .i64 is0.1, .int .i64 is0.2.1, .sl (.sl (.int .i64)) is0.2.2.1, .sl (.sl (.int .i64)) is0.2.2.2]] []), (3, .bp 3 0), (14, .sl (.sl (.int .i64)) table), (15, .int .i64 (table.length : Int)), (16, .int .i64 st1), (30, .bool (!v0))] [(3, .box 60 [.int .i64 m.1, .int .i64 m.2.1, .sl (.sl (.int .i64)) m.2.2.1, .sl (.sl (.int .i64)) m.2.2.2])] ?_
      refine zQ h (fun hb13 h => ?_) (fun hb13 h => ?_)
      ·refine zo ?_
       refine zB [(6, .bool false)] [] ?_
       refine AW.ret ?_
       refine ablock_r ?_
       refine athen_r ?_
       obtain rfl := Option.some.inj h
       rw [← hd4 _ rfl] at ho3
       have h := ho3
       try simp only at h
       refine athen_r ?_
       refine ablock_r ?_
       refine athen_r ?_
       obtain rfl := Option.some.inj h
       exact zR [] [] []
      ·refine zm ?_
       refine athen_n ?_
       refine AW.ops ?_
       obtain ⟨c14, h⟩ := ck_some.1 h
       refine zA [(2, .fn (.func 64) [.agg [.int .i64 is0.1, .int .i64 is0.2.1, .sl (.sl (.int .i64)) is0.2.2.1, .sl (.sl (.int .i64)) is0.2.2.2]] []), (3, .bp 3 0), (14, .sl (.sl (.int .i64)) table), (15, .int .i64 (table.length : Int)), (16, .int .i64 (st1 + 1))] [(3, .box 60 [.int .i64 m.1, .int .i64 m.2.1, .sl (.sl (.int .i64)) m.2.2.1, .sl (.sl (.int .i64)) m.2.2.2])] ?_
       obtain rfl := Option.some.inj h
       exact ⟨_, rfl, zL [] [] []⟩
    ·refine AW.exit ?_
     refine athen_e ?_
     obtain rfl := Option.some.inj h
     rw [← hd4 _ rfl] at ho3
     have h := ho3
     try simp only at h
     refine athen_e ?_
     refine ablock_s ?_
     refine athen_n ?_
     exact AW.weaken (zL [] [] []) (hk_spec_machine_isTable_k1 () h)

theorem hc_spec_isAnswer (n : Int) {r : Bool} (h : spec_isAnswer n = some r) : HC Try.prog 65 [] [.int .i64 n] [] (.bool r) := by
 unfold spec_isAnswer at h
 refine zH Try.func65 [.tmp 2] 9 ?_
 refine zo ?_
 refine zB [(0, .int .i64 n)] [] ?_
 refine zo ?_
 refine zS 3 [(0, .int .i64 n), (5, .bool (decide (0 ≤ n)))] [] ?_
 rcases zI h with ⟨hb1, h⟩ | ⟨hb1, h⟩
 ·refine zB [(2, .bool (decide (n ≤ 5)))] [] ?_
  refine AW.ret ?_
  obtain rfl := Option.some.inj h
  exact zR [] [] []
 ·refine zB [(2, .bool false)] [] ?_
  refine AW.ret ?_
  obtain rfl := Option.some.inj h
  exact zR [] [] []

theorem hc_spec_all_2 (numbers : List Int) {r : Bool} (h : spec_all_2 numbers = some r) : HC Try.prog 94 [] [.fn (.func 65) [] [], .sl (.int .i64) numbers] [] (.bool r) := by
 unfold spec_all_2 at h
 refine zH Try.func94 [.tmp 4] 18 ?_
 refine zo ?_
 refine zB [(0, .fn (.func 65) [] []), (1, .sl (.int .i64) numbers)] [] ?_
 refine AW.have1 (fun _ : Unit => spec_all_2_k1 = some r) (fun _ => ⟨fr [], hpGet [], gt⟩) (fun _ h => ?_) (fun hk_spec_all_2_k1 => ?_)
 ·as_aux_lemma =>
   unfold spec_all_2_k1 at h
   refine zo ?_
   refine zB [(4, .bool true)] [] ?_
   refine AW.ret ?_
   obtain rfl := Option.some.inj h
   exact zR [] [] []
 ·refine AW.seq ?_
  refine zo ?_
  refine zB [(0, .fn (.func 65) [] []), (7, .sl (.int .i64) numbers), (8, .int .i64 (numbers.length : Int)), (9, .int .i64 0)] [] ?_
  refine AW.block ?_
  obtain ⟨rv5, hw1, ho2⟩ := Option.bind_eq_some_iff.1 h
  refine AW.loopO (spec_all_2_b1 numbers) (fun st1 => ⟨fr [(0, .fn (.func 65) [] []), (7, .sl (.int .i64) numbers), (8, .int .i64 (numbers.length : Int)), (9, .int .i64 st1)], hpGet [], gt⟩) 0 hw1 (zL [] [] []) ?_
  as_aux_lemma =>
   intro st1 x4 h hd3
   unfold spec_all_2_b1 at h
   refine zo ?_
   refine zB [(0, .fn (.func 65) [] []), (7, .sl (.int .i64) numbers), (8, .int .i64 (numbers.length : Int)), (9, .int .i64 st1), (10, .bool (decide (st1 < (numbers.length : Int))))] [] ?_
   refine AW.seq ?_
   refine zQ h (fun hb6 h => ?_) (fun hb6 h => ?_)
   ·refine zk ?_
    refine AW.seq ?_
    refine AW.block ?_
    refine zo ?_
    obtain ⟨c7, h⟩ := ck_some.1 h
    obtain ⟨c8, h⟩ := ck_some.1 h
    refine zB [(0, .fn (.func 65) [] []), (6, .int .i64 (numbers.getD st1.toNat 0)), (7, .sl (.int .i64) numbers), (8, .int .i64 (numbers.length : Int)), (9, .int .i64 st1)] [] ?_
    refine zo ?_
    refine zS 2 [(0, .fn (.func 65) [] []), (7, .sl (.int .i64) numbers), (8, .int .i64 (numbers.length : Int)), (9, .int .i64 st1), (13, .fn (.func 65) [] []), (14, .int .i64 (numbers.getD st1.toNat 0))] [] ?_
    obtain ⟨v0, hv9, h⟩ := Option.bind_eq_some_iff.1 h
    refine zC [] [] (hc_spec_isAnswer (numbers.getD st1.toNat 0) hv9) [(0, .fn (.func 65) [] []), (7, .sl (.int .i64) numbers), (8, .int .i64 (numbers.length : Int)), (9, .int .i64 st1), (15, .bool v0)] [] ?_
    refine zB [(0, .fn (.func 65) [] []), (7, .sl (.int .i64) numbers), (8, .int .i64 (numbers.length : Int)), (9, .int .i64 st1), (16, .bool (!v0))] [] ?_
    refine zQ h (fun hb10 h => ?_) (fun hb10 h => ?_)
    ·refine zo ?_
     refine zB [(4, .bool false)] [] ?_
     refine AW.ret ?_
     refine ablock_r ?_
     refine athen_r ?_
     obtain rfl := Option.some.inj h
     rw [← hd3 _ rfl] at ho2
     have h := ho2
     try simp only at h
     refine athen_r ?_
     refine ablock_r ?_
     refine athen_r ?_
     obtain rfl := Option.some.inj h
     exact zR [] [] []
    ·refine zm ?_
     refine athen_n ?_
     refine AW.ops ?_
     obtain ⟨c11, h⟩ := ck_some.1 h
     refine zA [(0, .fn (.func 65) [] []), (7, .sl (.int .i64) numbers), (8, .int .i64 (numbers.length : Int)), (9, .int .i64 (st1 + 1))] [] ?_
     obtain rfl := Option.some.inj h
     exact ⟨_, rfl, zL [] [] []⟩
   ·refine AW.exit ?_
    refine athen_e ?_
    obtain rfl := Option.some.inj h
    rw [← hd3 _ rfl] at ho2
    have h := ho2
    try simp only at h
    refine athen_e ?_
    refine ablock_s ?_
    refine athen_n ?_
    exact AW.weaken (zL [] [] []) (hk_spec_all_2_k1 () h)

theorem hc_spec_machine_isTable_2 (m : Int × Int × (List (List Int)) × (List (List Int))) (table : List (List Int)) {r : Bool} (h : spec_machine_isTable_2 m table = some r) : HC Try.prog 63 [] [.agg [.int .i64 m.1, .int .i64 m.2.1, .sl (.sl (.int .i64)) m.2.2.1, .sl (.sl (.int .i64)) m.2.2.2], .sl (.sl (.int .i64)) table, .fn (.func 65) [] []] [] (.bool r) := by
 unfold spec_machine_isTable_2 at h
 refine zH Try.func63 [.tmp 6] 32 ?_
 refine zo ?_
 refine zB [(1, .sl (.sl (.int .i64)) table), (2, .fn (.func 65) [] []), (3, .bp 3 0)] [(3, .box 60 [.int .i64 m.1, .int .i64 m.2.1, .sl (.sl (.int .i64)) m.2.2.1, .sl (.sl (.int .i64)) m.2.2.2])] ?_
 refine AW.seq ?_
 refine zo ?_
 refine zB [(1, .sl (.sl (.int .i64)) table), (2, .fn (.func 65) [] []), (3, .bp 3 0), (13, .bool (!(decide ((table.length : Int) = m.1))))] [(3, .box 60 [.int .i64 m.1, .int .i64 m.2.1, .sl (.sl (.int .i64)) m.2.2.1, .sl (.sl (.int .i64)) m.2.2.2])] ?_
 refine zQ h (fun hb1 h => ?_) (fun hb1 h => ?_)
 ·refine zo ?_
  refine zB [(6, .bool false)] [] ?_
  refine zr ?_
  obtain rfl := Option.some.inj h
  exact zR [] [] []
 ·refine zk ?_
  refine AW.have1 (fun _ : Unit => spec_machine_isTable_2_k1 = some r) (fun _ => ⟨fr [], hpGet [], gt⟩) (fun _ h => ?_) (fun hk_spec_machine_isTable_2_k1 => ?_)
  ·as_aux_lemma =>
    unfold spec_machine_isTable_2_k1 at h
    refine zo ?_
    refine zB [(6, .bool true)] [] ?_
    refine AW.ret ?_
    obtain rfl := Option.some.inj h
    exact zR [] [] []
  ·refine AW.seq ?_
   refine zo ?_
   refine zB [(2, .fn (.func 65) [] []), (3, .bp 3 0), (14, .sl (.sl (.int .i64)) table), (15, .int .i64 (table.length : Int)), (16, .int .i64 0)] [(3, .box 60 [.int .i64 m.1, .int .i64 m.2.1, .sl (.sl (.int .i64)) m.2.2.1, .sl (.sl (.int .i64)) m.2.2.2])] ?_
   refine AW.block ?_
   obtain ⟨rv6, hw2, ho3⟩ := Option.bind_eq_some_iff.1 h
   refine AW.loopO (spec_machine_isTable_2_b1 m table) (fun st1 => ⟨fr [(2, .fn (.func 65) [] []), (3, .bp 3 0), (14, .sl (.sl (.int .i64)) table), (15, .int .i64 (table.length : Int)), (16, .int .i64 st1)], hpGet [(3, .box 60 [.int .i64 m.1, .int .i64 m.2.1, .sl (.sl (.int .i64)) m.2.2.1, .sl (.sl (.int .i64)) m.2.2.2])], gt⟩) 0 hw2 (zL [] [] []) ?_
   as_aux_lemma =>
    intro st1 x5 h hd4
    unfold spec_machine_isTable_2_b1 at h
    refine zo ?_
    refine zB [(2, .fn (.func 65) [] []), (3, .bp 3 0), (14, .sl (.sl (.int .i64)) table), (15, .int .i64 (table.length : Int)), (16, .int .i64 st1), (17, .bool (decide (st1 < (table.length : Int))))] [(3, .box 60 [.int .i64 m.1, .int .i64 m.2.1, .sl (.sl (.int .i64)) m.2.2.1, .sl (.sl (.int .i64)) m.2.2.2])] ?_
    refine AW.seq ?_
    refine zQ h (fun hb7 h => ?_) (fun hb7 h => ?_)
    ·refine zk ?_
     refine AW.seq ?_
     refine AW.block ?_
     refine zo ?_
     obtain ⟨c8, h⟩ := ck_some.1 h
     obtain ⟨c9, h⟩ := ck_some.1 h
     refine zB [(2, .fn (.func 65) [] []), (3, .bp 3 0), (8, .sl (.int .i64) (table.getD st1.toNat [])), (14, .sl (.sl (.int .i64)) table), (15, .int .i64 (table.length : Int)), (16, .int .i64 st1)] [(3, .box 60 [.int .i64 m.1, .int .i64 m.2.1, .sl (.sl (.int .i64)) m.2.2.1, .sl (.sl (.int .i64)) m.2.2.2])] ?_
     refine zo ?_
     refine zS 5 [(2, .fn (.func 65) [] []), (3, .bp 3 0), (8, .sl (.int .i64) (table.getD st1.toNat [])), (14, .sl (.sl (.int .i64)) table), (15, .int .i64 (table.length : Int)), (16, .int .i64 st1), (24, .bool (!(decide (((table.getD st1.toNat []).length : Int) = m.2.1))))] [(3, .box 60 [.int .i64 m.1, .int .i64 m.2.1, .sl (.sl (.int .i64)) m.2.2.1, .sl (.sl (.int .i64)) m.2.2.2])] ?_
     refine zS 1 [(2, .fn (.func 65) [] []), (3, .bp 3 0), (8, .sl (.int .i64) (table.getD st1.toNat [])), (14, .sl (.sl (.int .i64)) table), (15, .int .i64 (table.length : Int)), (16, .int .i64 st1), (25, .bool (!(decide (((table.getD st1.toNat []).length : Int) = m.2.1))))] [(3, .box 60 [.int .i64 m.1, .int .i64 m.2.1, .sl (.sl (.int .i64)) m.2.2.1, .sl (.sl (.int .i64)) m.2.2.2])] ?_
     rcases zI h with ⟨hb10, h⟩ | ⟨hb10, h⟩
     ·refine zS 4 [(2, .fn (.func 65) [] []), (3, .bp 3 0), (14, .sl (.sl (.int .i64)) table), (15, .int .i64 (table.length : Int)), (16, .int .i64 st1), (25, .bool true), (29, .cv (undef))] [(3, .box 60 [.int .i64 m.1, .int .i64 m.2.1, .sl (.sl (.int .i64)) m.2.2.1, .sl (.sl (.int .i64)) m.2.2.2])] ?_
      refine zB [(2, .fn (.func 65) [] []), (3, .bp 3 0), (14, .sl (.sl (.int .i64)) table), (15, .int .i64 (table.length : Int)), (16, .int .i64 st1), (30, .bool true)] [(3, .box 60 [.int .i64 m.1, .int .i64 m.2.1, .sl (.sl (.int .i64)) m.2.2.1, .sl (.sl (.int .i64)) m.2.2.2])] ?_
      refine AW.cond (b := true) rfl (fun _ => ?_) (fun hb11 => by cases hb11)
      refine zo ?_
      refine zB [(6, .bool false)] [] ?_
      refine AW.ret ?_
      refine ablock_r ?_
      refine athen_r ?_
      obtain rfl := Option.some.inj h
      rw [← hd4 _ rfl] at ho3
      have h := ho3
      try simp only at h
      refine athen_r ?_
      refine ablock_r ?_
      refine athen_r ?_
      obtain rfl := Option.some.inj h
      exact zR [] [] []
     ·refine zS 2 [(2, .fn (.func 65) [] []), (3, .bp 3 0), (14, .sl (.sl (.int .i64)) table), (15, .int .i64 (table.length : Int)), (16, .int .i64 st1), (25, .bool false), (26, .fn (.func 65) [] []), (27, .sl (.int .i64) (table.getD st1.toNat []))] [(3, .box 60 [.int .i64 m.1, .int .i64 m.2.1, .sl (.sl (.int .i64)) m.2.2.1, .sl (.sl (.int .i64)) m.2.2.2])] ?_
      obtain ⟨v0, hv12, h⟩ := Option.bind_eq_some_iff.1 h
      refine zG [] [] (hc_spec_all_2 (table.getD st1.toNat []) hv12) [(2, .fn (.func 65) [] []), (3, .bp 3 0), (14, .sl (.sl (.int .i64)) table), (15, .int .i64 (table.length : Int)), (16, .int .i64 st1), (25, .bool false), (28, .bool v0)] [(3, .box 60 [.int .i64 m.1, .int .i64 m.2.1, .sl (.sl (.int .i64)) m.2.2.1, .sl (.sl (.int .i64)) m.2.2.2])] ?_
      refine zB [(2, .fn (.func 65) [] []), (3, .bp 3 0), (14, .sl (.sl (.int .i64)) table), (15, .int .i64 (table.length : Int)), (16, .int .i64 st1), (30, .bool (!v0))] [(3, .box 60 [.int .i64 m.1, .int .i64 m.2.1, .sl (.sl (.int .i64)) m.2.2.1, .sl (.sl (.int .i64)) m.2.2.2])] ?_
      refine zQ h (fun hb13 h => ?_) (fun hb13 h => ?_)
      ·refine zo ?_
       refine zB [(6, .bool false)] [] ?_
       refine AW.ret ?_
       refine ablock_r ?_
       refine athen_r ?_
       obtain rfl := Option.some.inj h
       rw [← hd4 _ rfl] at ho3
       have h := ho3
       try simp only at h
       refine athen_r ?_
       refine ablock_r ?_
       refine athen_r ?_
       obtain rfl := Option.some.inj h
       exact zR [] [] []
      ·refine zm ?_
       refine athen_n ?_
       refine AW.ops ?_
       obtain ⟨c14, h⟩ := ck_some.1 h
       refine zA [(2, .fn (.func 65) [] []), (3, .bp 3 0), (14, .sl (.sl (.int .i64)) table), (15, .int .i64 (table.length : Int)), (16, .int .i64 (st1 + 1))] [(3, .box 60 [.int .i64 m.1, .int .i64 m.2.1, .sl (.sl (.int .i64)) m.2.2.1, .sl (.sl (.int .i64)) m.2.2.2])] ?_
       obtain rfl := Option.some.inj h
       exact ⟨_, rfl, zL [] [] []⟩
    ·refine AW.exit ?_
     refine athen_e ?_
     obtain rfl := Option.some.inj h
     rw [← hd4 _ rfl] at ho3
     have h := ho3
     try simp only at h
     refine athen_e ?_
     refine ablock_s ?_
     refine athen_n ?_
     exact AW.weaken (zL [] [] []) (hk_spec_machine_isTable_2_k1 () h)

theorem hc_spec_Valid (s : Int × Int × (List (List Int)) × (List (List Int))) {r : Bool} (h : spec_Valid s = some r) : HC Try.prog 22 [] [.agg [.int .i64 s.1, .int .i64 s.2.1, .sl (.sl (.int .i64)) s.2.2.1, .sl (.sl (.int .i64)) s.2.2.2]] [] (.bool r) := by
 unfold spec_Valid at h
 refine zH Try.func22 [.tmp 2] 35 ?_
 refine zo ?_
 refine zB [(1, .bp 1 0)] [(1, .box 24 [.int .i64 s.1, .int .i64 s.2.1, .sl (.sl (.int .i64)) s.2.2.1, .sl (.sl (.int .i64)) s.2.2.2])] ?_
 refine AW.seq ?_
 refine zo ?_
 refine zS 4 [(1, .bp 1 0), (7, .bool (decide (s.1 < 1)))] [(1, .box 24 [.int .i64 s.1, .int .i64 s.2.1, .sl (.sl (.int .i64)) s.2.2.1, .sl (.sl (.int .i64)) s.2.2.2])] ?_
 rcases zI h with ⟨hb1, h⟩ | ⟨hb1, h⟩
 ·refine zS 5 [(1, .bp 1 0), (12, .bool true)] [(1, .box 24 [.int .i64 s.1, .int .i64 s.2.1, .sl (.sl (.int .i64)) s.2.2.1, .sl (.sl (.int .i64)) s.2.2.2])] ?_
  refine zS 5 [(1, .bp 1 0), (17, .bool true)] [(1, .box 24 [.int .i64 s.1, .int .i64 s.2.1, .sl (.sl (.int .i64)) s.2.2.1, .sl (.sl (.int .i64)) s.2.2.2])] ?_
  refine zB [(1, .bp 1 0), (21, .bool true)] [(1, .box 24 [.int .i64 s.1, .int .i64 s.2.1, .sl (.sl (.int .i64)) s.2.2.1, .sl (.sl (.int .i64)) s.2.2.2])] ?_
  refine AW.cond (b := true) rfl (fun _ => ?_) (fun hb2 => by cases hb2)
  refine zo ?_
  refine zB [(2, .bool false)] [] ?_
  refine zr ?_
  obtain rfl := Option.some.inj h
  exact zR [] [] []
 ·refine zS 5 [(1, .bp 1 0), (12, .bool (decide (8 < s.1)))] [(1, .box 24 [.int .i64 s.1, .int .i64 s.2.1, .sl (.sl (.int .i64)) s.2.2.1, .sl (.sl (.int .i64)) s.2.2.2])] ?_
  rcases zI h with ⟨hb3, h⟩ | ⟨hb3, h⟩
  ·refine zS 5 [(1, .bp 1 0), (17, .bool true)] [(1, .box 24 [.int .i64 s.1, .int .i64 s.2.1, .sl (.sl (.int .i64)) s.2.2.1, .sl (.sl (.int .i64)) s.2.2.2])] ?_
   refine zB [(1, .bp 1 0), (21, .bool true)] [(1, .box 24 [.int .i64 s.1, .int .i64 s.2.1, .sl (.sl (.int .i64)) s.2.2.1, .sl (.sl (.int .i64)) s.2.2.2])] ?_
   refine AW.cond (b := true) rfl (fun _ => ?_) (fun hb4 => by cases hb4)
   refine zo ?_
   refine zB [(2, .bool false)] [] ?_
   refine zr ?_
   obtain rfl := Option.some.inj h
   exact zR [] [] []
  ·refine zS 5 [(1, .bp 1 0), (17, .bool (decide (s.2.1 < 1)))] [(1, .box 24 [.int .i64 s.1, .int .i64 s.2.1, .sl (.sl (.int .i64)) s.2.2.1, .sl (.sl (.int .i64)) s.2.2.2])] ?_
   rcases zI h with ⟨hb5, h⟩ | ⟨hb5, h⟩
   ·refine zB [(1, .bp 1 0), (21, .bool true)] [(1, .box 24 [.int .i64 s.1, .int .i64 s.2.1, .sl (.sl (.int .i64)) s.2.2.1, .sl (.sl (.int .i64)) s.2.2.2])] ?_
    refine AW.cond (b := true) rfl (fun _ => ?_) (fun hb6 => by cases hb6)
    refine zo ?_
    refine zB [(2, .bool false)] [] ?_
    refine zr ?_
    obtain rfl := Option.some.inj h
    exact zR [] [] []
   ·refine zB [(1, .bp 1 0), (21, .bool (decide (4 < s.2.1)))] [(1, .box 24 [.int .i64 s.1, .int .i64 s.2.1, .sl (.sl (.int .i64)) s.2.2.1, .sl (.sl (.int .i64)) s.2.2.2])] ?_
    refine zQ h (fun hb7 h => ?_) (fun hb7 h => ?_)
    ·refine zo ?_
     refine zB [(2, .bool false)] [] ?_
     refine zr ?_
     obtain rfl := Option.some.inj h
     exact zR [] [] []
    ·refine zk ?_
     refine zo ?_
     refine zB [(1, .bp 1 0), (3, .bp 3 0)] [(1, .box 24 [.int .i64 s.1, .int .i64 s.2.1, .sl (.sl (.int .i64)) s.2.2.1, .sl (.sl (.int .i64)) s.2.2.2]), (3, .box 60 [.int .i64 s.1, .int .i64 s.2.1, .sl (.sl (.int .i64)) s.2.2.1, .sl (.sl (.int .i64)) s.2.2.2])] ?_
     refine zo ?_
     refine zS 5 [(1, .bp 1 0), (3, .bp 3 0), (23, .agg [.int .i64 s.1, .int .i64 s.2.1, .sl (.sl (.int .i64)) s.2.2.1, .sl (.sl (.int .i64)) s.2.2.2]), (25, .sl (.sl (.int .i64)) s.2.2.1), (27, .fn (.func 64) [.agg [.int .i64 s.1, .int .i64 s.2.1, .sl (.sl (.int .i64)) s.2.2.1, .sl (.sl (.int .i64)) s.2.2.2]] [])] [(1, .box 24 [.int .i64 s.1, .int .i64 s.2.1, .sl (.sl (.int .i64)) s.2.2.1, .sl (.sl (.int .i64)) s.2.2.2]), (3, .box 60 [.int .i64 s.1, .int .i64 s.2.1, .sl (.sl (.int .i64)) s.2.2.1, .sl (.sl (.int .i64)) s.2.2.2])] ?_
     obtain ⟨v0, hv8, h⟩ := Option.bind_eq_some_iff.1 h
     refine zC [] [] (hc_spec_machine_isTable s s.2.2.1 s hv8) [(1, .bp 1 0), (3, .bp 3 0), (28, .bool v0)] [(1, .box 24 [.int .i64 s.1, .int .i64 s.2.1, .sl (.sl (.int .i64)) s.2.2.1, .sl (.sl (.int .i64)) s.2.2.2]), (3, .box 60 [.int .i64 s.1, .int .i64 s.2.1, .sl (.sl (.int .i64)) s.2.2.1, .sl (.sl (.int .i64)) s.2.2.2])] ?_
     refine zS 1 [(1, .bp 1 0), (3, .bp 3 0), (29, .bool v0)] [(1, .box 24 [.int .i64 s.1, .int .i64 s.2.1, .sl (.sl (.int .i64)) s.2.2.1, .sl (.sl (.int .i64)) s.2.2.2]), (3, .box 60 [.int .i64 s.1, .int .i64 s.2.1, .sl (.sl (.int .i64)) s.2.2.1, .sl (.sl (.int .i64)) s.2.2.2])] ?_
     rcases zI h with ⟨hb9, h⟩ | ⟨hb9, h⟩
     ·refine zS 3 [(29, .bool true), (30, .agg [.int .i64 s.1, .int .i64 s.2.1, .sl (.sl (.int .i64)) s.2.2.1, .sl (.sl (.int .i64)) s.2.2.2]), (32, .sl (.sl (.int .i64)) s.2.2.2)] [] ?_
      obtain ⟨v0_2, hv10, h⟩ := Option.bind_eq_some_iff.1 h
      refine zG [] [] (hc_spec_machine_isTable_2 s s.2.2.2 hv10) [(29, .bool true), (33, .bool v0_2)] [] ?_
      refine zB [(2, .bool v0_2)] [] ?_
      refine AW.ret ?_
      obtain rfl := Option.some.inj h
      exact zR [] [] []
     ·refine zS 4 [(29, .bool false), (33, .cv (undef))] [] ?_
      refine zB [(2, .bool false)] [] ?_
      refine AW.ret ?_
      obtain rfl := Option.some.inj h
      exact zR [] [] []

theorem hc_spec_checked (s : Int × Int × (List (List Int)) × (List (List Int))) (states : List Int) {r : Int × Int × (List (List Int)) × (List (List Int)) × Int} (h : spec_checked s states = some r) : HC Try.prog 56 [] [.agg [.int .i64 s.1, .int .i64 s.2.1, .sl (.sl (.int .i64)) s.2.2.1, .sl (.sl (.int .i64)) s.2.2.2], .sl (.int .i64) states] [] (.tup [.agg [.int .i64 r.1, .int .i64 r.2.1, .sl (.sl (.int .i64)) r.2.2.1, .sl (.sl (.int .i64)) r.2.2.2.1], .int .i64 r.2.2.2.2]) := by
 unfold spec_checked at h
 refine zH Try.func56 [.cell 4 60, .tmp 5] 19 ?_
 refine zo ?_
 refine zB [(1, .sl (.int .i64) states), (2, .bp 2 0), (4, .bp 4 0)] [(2, .box 24 [.int .i64 s.1, .int .i64 s.2.1, .sl (.sl (.int .i64)) s.2.2.1, .sl (.sl (.int .i64)) s.2.2.2]), (4, .box 60 [.int .i64 0, .int .i64 0, .cv (.slice none 0 0), .cv (.slice none 0 0)])] ?_
 refine AW.seq ?_
 refine zo ?_
 refine zS 1 [(1, .sl (.int .i64) states), (2, .bp 2 0), (4, .bp 4 0), (7, .agg [.int .i64 s.1, .int .i64 s.2.1, .sl (.sl (.int .i64)) s.2.2.1, .sl (.sl (.int .i64)) s.2.2.2])] [(2, .box 24 [.int .i64 s.1, .int .i64 s.2.1, .sl (.sl (.int .i64)) s.2.2.1, .sl (.sl (.int .i64)) s.2.2.2]), (4, .box 60 [.int .i64 0, .int .i64 0, .cv (.slice none 0 0), .cv (.slice none 0 0)])] ?_
 obtain ⟨v0, hv1, h⟩ := Option.bind_eq_some_iff.1 h
 refine zC [] [] (hc_spec_Valid s hv1) [(1, .sl (.int .i64) states), (2, .bp 2 0), (4, .bp 4 0), (8, .bool v0)] [(2, .box 24 [.int .i64 s.1, .int .i64 s.2.1, .sl (.sl (.int .i64)) s.2.2.1, .sl (.sl (.int .i64)) s.2.2.2]), (4, .box 60 [.int .i64 0, .int .i64 0, .cv (.slice none 0 0), .cv (.slice none 0 0)])] ?_
 refine zB [(1, .sl (.int .i64) states), (2, .bp 2 0), (4, .bp 4 0), (9, .bool (!v0))] [(2, .box 24 [.int .i64 s.1, .int .i64 s.2.1, .sl (.sl (.int .i64)) s.2.2.1, .sl (.sl (.int .i64)) s.2.2.2]), (4, .box 60 [.int .i64 0, .int .i64 0, .cv (.slice none 0 0), .cv (.slice none 0 0)])] ?_
 refine zQ h (fun hb2 h => ?_) (fun hb2 h => ?_)
 ·refine zo ?_
  refine zB [(4, .bp 4 0), (5, .int .i64 10)] [(4, .box 60 [.int .i64 0, .int .i64 0, .cv (.slice none 0 0), .cv (.slice none 0 0)])] ?_
  refine zr ?_
  obtain rfl := Option.some.inj h
  exact zR [] [] []
 ·refine zk ?_
  refine zo ?_
  refine zB [(1, .sl (.int .i64) states), (4, .bp 4 0), (6, .bp 6 0)] [(4, .box 60 [.int .i64 0, .int .i64 0, .cv (.slice none 0 0), .cv (.slice none 0 0)]), (6, .box 60 [.int .i64 s.1, .int .i64 s.2.1, .sl (.sl (.int .i64)) s.2.2.1, .sl (.sl (.int .i64)) s.2.2.2])] ?_
  refine AW.seq ?_
  refine zo ?_
  refine zS 3 [(4, .bp 4 0), (6, .bp 6 0), (13, .fn (.func 64) [.agg [.int .i64 s.1, .int .i64 s.2.1, .sl (.sl (.int .i64)) s.2.2.1, .sl (.sl (.int .i64)) s.2.2.2]] []), (14, .sl (.int .i64) states)] [(4, .box 60 [.int .i64 0, .int .i64 0, .cv (.slice none 0 0), .cv (.slice none 0 0)]), (6, .box 60 [.int .i64 s.1, .int .i64 s.2.1, .sl (.sl (.int .i64)) s.2.2.1, .sl (.sl (.int .i64)) s.2.2.2])] ?_
  obtain ⟨v0_2, hv3, h⟩ := Option.bind_eq_some_iff.1 h
  refine zC [] [] (hc_spec_all s states hv3) [(4, .bp 4 0), (6, .bp 6 0), (15, .bool v0_2)] [(4, .box 60 [.int .i64 0, .int .i64 0, .cv (.slice none 0 0), .cv (.slice none 0 0)]), (6, .box 60 [.int .i64 s.1, .int .i64 s.2.1, .sl (.sl (.int .i64)) s.2.2.1, .sl (.sl (.int .i64)) s.2.2.2])] ?_
  refine zB [(4, .bp 4 0), (6, .bp 6 0), (16, .bool (!v0_2))] [(4, .box 60 [.int .i64 0, .int .i64 0, .cv (.slice none 0 0), .cv (.slice none 0 0)]), (6, .box 60 [.int .i64 s.1, .int .i64 s.2.1, .sl (.sl (.int .i64)) s.2.2.1, .sl (.sl (.int .i64)) s.2.2.2])] ?_
  refine zQ h (fun hb4 h => ?_) (fun hb4 h => ?_)
  ·refine zo ?_
   refine zB [(4, .bp 4 0), (5, .int .i64 2)] [(4, .box 60 [.int .i64 0, .int .i64 0, .cv (.slice none 0 0), .cv (.slice none 0 0)])] ?_
   refine zr ?_
   obtain rfl := Option.some.inj h
   exact zR [] [] []
  ·refine zk ?_
   refine zo ?_
   refine zB [(4, .bp 4 0), (5, .int .i64 0)] [(4, .box 60 [.int .i64 s.1, .int .i64 s.2.1, .sl (.sl (.int .i64)) s.2.2.1, .sl (.sl (.int .i64)) s.2.2.2])] ?_
   refine AW.ret ?_
   obtain rfl := Option.some.inj h
   exact zR [] [] []

theorem hc_spec_walk (m : Int × Int × (List (List Int)) × (List (List Int))) (n : Int × Int × (List (List Int)) × (List (List Int))) (from0 : Int × Int) {r : Unit} (h : spec_walk m n from0 = some r) : HC Try.prog 95 [] [.agg [.int .i64 m.1, .int .i64 m.2.1, .sl (.sl (.int .i64)) m.2.2.1, .sl (.sl (.int .i64)) m.2.2.2], .agg [.int .i64 n.1, .int .i64 n.2.1, .sl (.sl (.int .i64)) n.2.2.1, .sl (.sl (.int .i64)) n.2.2.2], .agg [.int .i64 from0.1, .int .i64 from0.2]] [(2000, .box 75 [.int .i64 from0.1, .int .i64 from0.2]), (2001, .box 60 [.int .i64 m.1, .int .i64 m.2.1, .sl (.sl (.int .i64)) m.2.2.1, .sl (.sl (.int .i64)) m.2.2.2]), (2002, .box 60 [.int .i64 n.1, .int .i64 n.2.1, .sl (.sl (.int .i64)) n.2.2.1, .sl (.sl (.int .i64)) n.2.2.2])] (.fn (.func 100) [] [.bp 2000 0, .bp 2001 0, .bp 2002 0]) := by
 unfold spec_walk at h
 refine zH Try.func95 [.tmp 6] 8 ?_
 refine zo ?_
 refine zB [(3, .bp 3 0), (4, .bp 4 0), (5, .bp 5 0)] [(3, .box 60 [.int .i64 m.1, .int .i64 m.2.1, .sl (.sl (.int .i64)) m.2.2.1, .sl (.sl (.int .i64)) m.2.2.2]), (4, .box 60 [.int .i64 n.1, .int .i64 n.2.1, .sl (.sl (.int .i64)) n.2.2.1, .sl (.sl (.int .i64)) n.2.2.2]), (5, .box 75 [.int .i64 from0.1, .int .i64 from0.2])] ?_
 refine zo ?_
 refine zB [(6, .fn (.func 100) [] [.bp 5 0, .bp 3 0, .bp 4 0])] [(3, .box 60 [.int .i64 m.1, .int .i64 m.2.1, .sl (.sl (.int .i64)) m.2.2.1, .sl (.sl (.int .i64)) m.2.2.2]), (4, .box 60 [.int .i64 n.1, .int .i64 n.2.1, .sl (.sl (.int .i64)) n.2.2.1, .sl (.sl (.int .i64)) n.2.2.2]), (5, .box 75 [.int .i64 from0.1, .int .i64 from0.2])] ?_
 refine AW.ret ?_
 obtain rfl := Option.some.inj h
 exact zR [] [] [(2000, 5), (2001, 3), (2002, 4)]

theorem hc_slices_Clone (s : List Int) {r : (List Int)} (h : slices_Clone s = some r) : HC Try.prog 79 [] [.sl (.int .i64) s] [(2000, .arr 3 (.int .i64) r)] (.own 2000) := by
 unfold slices_Clone at h
 refine zH Try.func79 [.tmp 2] 8 ?_
 refine zo ?_
 refine zB [(0, .sl (.int .i64) s)] [] ?_
 refine AW.seq ?_
 refine zo ?_
 refine zS 1 [(0, .sl (.int .i64) s), (3, .sl (.int .i64) s)] [] ?_
 refine AO.nilEq (neg := false) tab_ok (by decide) rfl rfl tab_25 rfl rfl rfl (fun hnil1 => ?_) ?_
 ·have h : (some []) = some r := by
   first | (simp only [hnil1] at h ⊢; simpa [ck] using h) | (simp [hnil1, ck] at h ⊢; first | done | exact h)
  refine zT [(0, .sl (.int .i64) s), (4, .bool true)] [] gt ?_
  refine zB [(0, .sl (.int .i64) s), (4, .bool true)] [] ?_
  refine AW.cond (b := true) rfl (fun _ => ?_) (fun hb2 => by cases hb2)
  refine zo ?_
  refine zB [(2, .cv (.slice none 0 0))] [] ?_
  refine zr ?_
  obtain rfl := Option.some.inj h
  exact zR [] [2000] []
 ·refine zT [(0, .sl (.int .i64) s), (4, .bool false)] [] gt ?_
  refine zB [(0, .sl (.int .i64) s), (4, .bool false)] [] ?_
  refine AW.cond (b := false) rfl (fun hb3 => by cases hb3) (fun _ => ?_)
  refine zk ?_
  refine zo ?_
  obtain ⟨c4, h⟩ := ck_some.1 h
  refine zB [(2, .own 7)] [(7, .arr 3 (.int .i64) s)] ?_
  refine AW.ret ?_
  obtain rfl := Option.some.inj h
  exact zR [] [] [(2000, 7)]

theorem hc_spec_longer (word : List Int) (op0 : Int) {r : (List Int)} (h : spec_longer word op0 = some r) : HC Try.prog 96 [] [.sl (.int .i64) word, .int .i64 op0] [(2000, .arr 3 (.int .i64) r)] (.own 2000) := by
 unfold spec_longer at h
 refine zH Try.func96 [.tmp 4] 10 ?_
 refine zo ?_
 refine zB [(0, .sl (.int .i64) word), (1, .int .i64 op0)] [] ?_
 refine zo ?_
 refine zS 1 [(1, .int .i64 op0), (5, .sl (.int .i64) word)] [] ?_
 obtain ⟨v0, hv1, h⟩ := Option.bind_eq_some_iff.1 h
 refine zC [] [] (hc_slices_Clone word hv1) [(1, .int .i64 op0), (6, .own 16000)] [(16000, .arr 3 (.int .i64) v0)] ?_
 obtain ⟨c2, h⟩ := ck_some.1 h
 refine zB [(4, .own 9)] [(9, .arr 3 (.int .i64) (v0 ++ [op0]))] ?_
 refine AW.ret ?_
 obtain rfl := Option.some.inj h
 exact zR [] [] [(2000, 9)]

end Go.Proofs.Ytcgflignbhmoaaa
