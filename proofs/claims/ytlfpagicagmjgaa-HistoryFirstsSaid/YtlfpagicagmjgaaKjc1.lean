/-
  Made by wip/tool/dc.py out of the print of the program: contracts.
-/
import Derived.Test.YtlfpagicagmjgaaHp
import Derived.Test.YtlfpagicagmjgaaShh
namespace Go.Proofs.Ytlfpagicagmjgaa
open Go.RowKit

set_option linter.unusedSimpArgs false
set_option linter.unusedVariables false
set_option linter.constructorNameAsVariable false

set_option maxRecDepth 100000
set_option maxHeartbeats 2000000

theorem hc_history_within (n : Int) (least : Int) (most : Int) {r : Bool} (h : history_within n least most = some r) : HC Try.prog 99 [] [.int .i64 n, .int .i64 least, .int .i64 most] [] (.bool r) := by
 unfold history_within at h
 refine zH Try.func99 [.tmp 6] 15 ?_
 refine zo ?_
 refine zB [(0, .int .i64 n), (1, .int .i64 least), (2, .int .i64 most)] [] ?_
 refine zo ?_
 refine zS 4 [(0, .int .i64 n), (2, .int .i64 most), (10, .bool (decide (least ≤ n)))] [] ?_
 rcases zI h with ⟨hb1, h⟩ | ⟨hb1, h⟩
 ·refine zB [(6, .bool (decide (n ≤ most)))] [] ?_
  refine AW.ret ?_
  obtain rfl := Option.some.inj h
  exact zR [] [] []
 ·refine zB [(6, .bool false)] [] ?_
  refine AW.ret ?_
  obtain rfl := Option.some.inj h
  exact zR [] [] []

theorem hc_spec_machine_isState (m : Int × Int × (List (List Int)) × (List (List Int))) (n : Int) {r : Bool} (h : spec_machine_isState m n = some r) : HC Try.prog 123 [] [.agg [.int .i64 m.1, .int .i64 m.2.1, .sl (.sl (.int .i64)) m.2.2.1, .sl (.sl (.int .i64)) m.2.2.2], .int .i64 n] [] (.bool r) := by
 unfold spec_machine_isState at h
 refine zH Try.func123 [.tmp 4] 13 ?_
 refine zo ?_
 refine zB [(1, .int .i64 n), (2, .bp 2 0)] [(2, .box 115 [.int .i64 m.1, .int .i64 m.2.1, .sl (.sl (.int .i64)) m.2.2.1, .sl (.sl (.int .i64)) m.2.2.2])] ?_
 refine zo ?_
 refine zS 3 [(1, .int .i64 n), (2, .bp 2 0), (7, .bool (decide (0 ≤ n)))] [(2, .box 115 [.int .i64 m.1, .int .i64 m.2.1, .sl (.sl (.int .i64)) m.2.2.1, .sl (.sl (.int .i64)) m.2.2.2])] ?_
 rcases zI h with ⟨hb1, h⟩ | ⟨hb1, h⟩
 ·refine zB [(4, .bool (decide (n < m.1)))] [] ?_
  refine AW.ret ?_
  obtain rfl := Option.some.inj h
  exact zR [] [] []
 ·refine zS 4 [(7, .bool false), (11, .cv (undef))] [] ?_
  refine zB [(4, .bool false)] [] ?_
  refine AW.ret ?_
  obtain rfl := Option.some.inj h
  exact zR [] [] []

theorem hc_spec_all (is0 : Int × Int × (List (List Int)) × (List (List Int))) (numbers : List Int) {r : Bool} (h : spec_all is0 numbers = some r) : HC Try.prog 129 [] [.fn (.func 123) [.agg [.int .i64 is0.1, .int .i64 is0.2.1, .sl (.sl (.int .i64)) is0.2.2.1, .sl (.sl (.int .i64)) is0.2.2.2]] [], .sl (.int .i64) numbers] [] (.bool r) := by
 unfold spec_all at h
 refine zH Try.func129 [.tmp 4] 18 ?_
 refine zo ?_
 refine zB [(0, .fn (.func 123) [.agg [.int .i64 is0.1, .int .i64 is0.2.1, .sl (.sl (.int .i64)) is0.2.2.1, .sl (.sl (.int .i64)) is0.2.2.2]] []), (1, .sl (.int .i64) numbers)] [] ?_
 refine AW.have1 (fun _ : Unit => spec_all_k1 = some r) (fun _ => ⟨fr [], hpGet [], gt⟩) (fun _ h => ?_) (fun hk_spec_all_k1 => ?_)
 ·unfold spec_all_k1 at h
  refine zo ?_
  refine zB [(4, .bool true)] [] ?_
  refine AW.ret ?_
  obtain rfl := Option.some.inj h
  exact zR [] [] []
 ·refine AW.seq ?_
  refine zo ?_
  refine zB [(0, .fn (.func 123) [.agg [.int .i64 is0.1, .int .i64 is0.2.1, .sl (.sl (.int .i64)) is0.2.2.1, .sl (.sl (.int .i64)) is0.2.2.2]] []), (7, .sl (.int .i64) numbers), (8, .int .i64 (numbers.length : Int)), (9, .int .i64 0)] [] ?_
  refine AW.block ?_
  obtain ⟨rv5, hw1, ho2⟩ := Option.bind_eq_some_iff.1 h
  refine AW.loopO (spec_all_b1 is0 numbers) (fun st1 => ⟨fr [(0, .fn (.func 123) [.agg [.int .i64 is0.1, .int .i64 is0.2.1, .sl (.sl (.int .i64)) is0.2.2.1, .sl (.sl (.int .i64)) is0.2.2.2]] []), (7, .sl (.int .i64) numbers), (8, .int .i64 (numbers.length : Int)), (9, .int .i64 st1)], hpGet [], gt⟩) 0 hw1 (zL [] [] []) ?_
  intro st1 x4 h hd3
  unfold spec_all_b1 at h
  refine zo ?_
  refine zB [(0, .fn (.func 123) [.agg [.int .i64 is0.1, .int .i64 is0.2.1, .sl (.sl (.int .i64)) is0.2.2.1, .sl (.sl (.int .i64)) is0.2.2.2]] []), (7, .sl (.int .i64) numbers), (8, .int .i64 (numbers.length : Int)), (9, .int .i64 st1), (10, .bool (decide (st1 < (numbers.length : Int))))] [] ?_
  refine AW.seq ?_
  refine zQ h (fun hb6 h => ?_) (fun hb6 h => ?_)
  ·refine zk ?_
   refine AW.seq ?_
   refine AW.block ?_
   refine zo ?_
   obtain ⟨c7, h⟩ := ck_some.1 h
   obtain ⟨c8, h⟩ := ck_some.1 h
   refine zB [(0, .fn (.func 123) [.agg [.int .i64 is0.1, .int .i64 is0.2.1, .sl (.sl (.int .i64)) is0.2.2.1, .sl (.sl (.int .i64)) is0.2.2.2]] []), (6, .int .i64 (numbers.getD st1.toNat 0)), (7, .sl (.int .i64) numbers), (8, .int .i64 (numbers.length : Int)), (9, .int .i64 st1)] [] ?_
   refine zo ?_
   refine zS 2 [(0, .fn (.func 123) [.agg [.int .i64 is0.1, .int .i64 is0.2.1, .sl (.sl (.int .i64)) is0.2.2.1, .sl (.sl (.int .i64)) is0.2.2.2]] []), (7, .sl (.int .i64) numbers), (8, .int .i64 (numbers.length : Int)), (9, .int .i64 st1), (13, .fn (.func 123) [.agg [.int .i64 is0.1, .int .i64 is0.2.1, .sl (.sl (.int .i64)) is0.2.2.1, .sl (.sl (.int .i64)) is0.2.2.2]] []), (14, .int .i64 (numbers.getD st1.toNat 0))] [] ?_
   obtain ⟨v0, hv9, h⟩ := Option.bind_eq_some_iff.1 h
   refine zC [] [] (hc_spec_machine_isState is0 (numbers.getD st1.toNat 0) hv9) [(0, .fn (.func 123) [.agg [.int .i64 is0.1, .int .i64 is0.2.1, .sl (.sl (.int .i64)) is0.2.2.1, .sl (.sl (.int .i64)) is0.2.2.2]] []), (7, .sl (.int .i64) numbers), (8, .int .i64 (numbers.length : Int)), (9, .int .i64 st1), (15, .bool v0)] [] ?_
   refine zB [(0, .fn (.func 123) [.agg [.int .i64 is0.1, .int .i64 is0.2.1, .sl (.sl (.int .i64)) is0.2.2.1, .sl (.sl (.int .i64)) is0.2.2.2]] []), (7, .sl (.int .i64) numbers), (8, .int .i64 (numbers.length : Int)), (9, .int .i64 st1), (16, .bool (!v0))] [] ?_
   refine zQ h (fun hb10 h => ?_) (fun hb10 h => ?_)
   ·refine zo ?_
    refine zB [(4, .bool false)] [] ?_
    refine AW.ret ?_
    refine ablock_r ?_
    refine athen_r ?_
    obtain rfl := Option.some.inj h
    rw [← hd3 _ rfl] at ho2
    have h := ho2
    try simp only at h
    refine athen_r ?_
    refine ablock_r ?_
    refine athen_r ?_
    obtain rfl := Option.some.inj h
    exact zR [] [] []
   ·refine zm ?_
    refine athen_n ?_
    refine AW.ops ?_
    obtain ⟨c11, h⟩ := ck_some.1 h
    refine zA [(0, .fn (.func 123) [.agg [.int .i64 is0.1, .int .i64 is0.2.1, .sl (.sl (.int .i64)) is0.2.2.1, .sl (.sl (.int .i64)) is0.2.2.2]] []), (7, .sl (.int .i64) numbers), (8, .int .i64 (numbers.length : Int)), (9, .int .i64 (st1 + 1))] [] ?_
    obtain rfl := Option.some.inj h
    exact ⟨_, rfl, zL [] [] []⟩
  ·refine AW.exit ?_
   refine athen_e ?_
   obtain rfl := Option.some.inj h
   rw [← hd3 _ rfl] at ho2
   have h := ho2
   try simp only at h
   refine athen_e ?_
   refine ablock_s ?_
   refine athen_n ?_
   exact AW.weaken (zL [] [] []) (hk_spec_all_k1 () h)

theorem hc_spec_machine_isTable (m : Int × Int × (List (List Int)) × (List (List Int))) (table : List (List Int)) (is0 : Int × Int × (List (List Int)) × (List (List Int))) {r : Bool} (h : spec_machine_isTable m table is0 = some r) : HC Try.prog 122 [] [.agg [.int .i64 m.1, .int .i64 m.2.1, .sl (.sl (.int .i64)) m.2.2.1, .sl (.sl (.int .i64)) m.2.2.2], .sl (.sl (.int .i64)) table, .fn (.func 123) [.agg [.int .i64 is0.1, .int .i64 is0.2.1, .sl (.sl (.int .i64)) is0.2.2.1, .sl (.sl (.int .i64)) is0.2.2.2]] []] [] (.bool r) := by
 unfold spec_machine_isTable at h
 refine zH Try.func122 [.tmp 6] 32 ?_
 refine zo ?_
 refine zB [(1, .sl (.sl (.int .i64)) table), (2, .fn (.func 123) [.agg [.int .i64 is0.1, .int .i64 is0.2.1, .sl (.sl (.int .i64)) is0.2.2.1, .sl (.sl (.int .i64)) is0.2.2.2]] []), (3, .bp 3 0)] [(3, .box 115 [.int .i64 m.1, .int .i64 m.2.1, .sl (.sl (.int .i64)) m.2.2.1, .sl (.sl (.int .i64)) m.2.2.2])] ?_
 refine AW.seq ?_
 refine zo ?_
 refine zB [(1, .sl (.sl (.int .i64)) table), (2, .fn (.func 123) [.agg [.int .i64 is0.1, .int .i64 is0.2.1, .sl (.sl (.int .i64)) is0.2.2.1, .sl (.sl (.int .i64)) is0.2.2.2]] []), (3, .bp 3 0), (13, .bool (!(decide ((table.length : Int) = m.1))))] [(3, .box 115 [.int .i64 m.1, .int .i64 m.2.1, .sl (.sl (.int .i64)) m.2.2.1, .sl (.sl (.int .i64)) m.2.2.2])] ?_
 refine zQ h (fun hb1 h => ?_) (fun hb1 h => ?_)
 ·refine zo ?_
  refine zB [(6, .bool false)] [] ?_
  refine zr ?_
  obtain rfl := Option.some.inj h
  exact zR [] [] []
 ·refine zk ?_
  refine AW.have1 (fun _ : Unit => spec_machine_isTable_k1 = some r) (fun _ => ⟨fr [], hpGet [], gt⟩) (fun _ h => ?_) (fun hk_spec_machine_isTable_k1 => ?_)
  ·unfold spec_machine_isTable_k1 at h
   refine zo ?_
   refine zB [(6, .bool true)] [] ?_
   refine AW.ret ?_
   obtain rfl := Option.some.inj h
   exact zR [] [] []
  ·refine AW.seq ?_
   refine zo ?_
   refine zB [(2, .fn (.func 123) [.agg [.int .i64 is0.1, .int .i64 is0.2.1, .sl (.sl (.int .i64)) is0.2.2.1, .sl (.sl (.int .i64)) is0.2.2.2]] []), (3, .bp 3 0), (14, .sl (.sl (.int .i64)) table), (15, .int .i64 (table.length : Int)), (16, .int .i64 0)] [(3, .box 115 [.int .i64 m.1, .int .i64 m.2.1, .sl (.sl (.int .i64)) m.2.2.1, .sl (.sl (.int .i64)) m.2.2.2])] ?_
   refine AW.block ?_
   obtain ⟨rv6, hw2, ho3⟩ := Option.bind_eq_some_iff.1 h
   refine AW.loopO (spec_machine_isTable_b1 m table is0) (fun st1 => ⟨fr [(2, .fn (.func 123) [.agg [.int .i64 is0.1, .int .i64 is0.2.1, .sl (.sl (.int .i64)) is0.2.2.1, .sl (.sl (.int .i64)) is0.2.2.2]] []), (3, .bp 3 0), (14, .sl (.sl (.int .i64)) table), (15, .int .i64 (table.length : Int)), (16, .int .i64 st1)], hpGet [(3, .box 115 [.int .i64 m.1, .int .i64 m.2.1, .sl (.sl (.int .i64)) m.2.2.1, .sl (.sl (.int .i64)) m.2.2.2])], gt⟩) 0 hw2 (zL [] [] []) ?_
   intro st1 x5 h hd4
   unfold spec_machine_isTable_b1 at h
   refine zo ?_
   refine zB [(2, .fn (.func 123) [.agg [.int .i64 is0.1, .int .i64 is0.2.1, .sl (.sl (.int .i64)) is0.2.2.1, .sl (.sl (.int .i64)) is0.2.2.2]] []), (3, .bp 3 0), (14, .sl (.sl (.int .i64)) table), (15, .int .i64 (table.length : Int)), (16, .int .i64 st1), (17, .bool (decide (st1 < (table.length : Int))))] [(3, .box 115 [.int .i64 m.1, .int .i64 m.2.1, .sl (.sl (.int .i64)) m.2.2.1, .sl (.sl (.int .i64)) m.2.2.2])] ?_
   refine AW.seq ?_
   refine zQ h (fun hb7 h => ?_) (fun hb7 h => ?_)
   ·refine zk ?_
    refine AW.seq ?_
    refine AW.block ?_
    refine zo ?_
    obtain ⟨c8, h⟩ := ck_some.1 h
    obtain ⟨c9, h⟩ := ck_some.1 h
    refine zB [(2, .fn (.func 123) [.agg [.int .i64 is0.1, .int .i64 is0.2.1, .sl (.sl (.int .i64)) is0.2.2.1, .sl (.sl (.int .i64)) is0.2.2.2]] []), (3, .bp 3 0), (8, .sl (.int .i64) (table.getD st1.toNat [])), (14, .sl (.sl (.int .i64)) table), (15, .int .i64 (table.length : Int)), (16, .int .i64 st1)] [(3, .box 115 [.int .i64 m.1, .int .i64 m.2.1, .sl (.sl (.int .i64)) m.2.2.1, .sl (.sl (.int .i64)) m.2.2.2])] ?_
    refine zo ?_
    refine zS 6 [(2, .fn (.func 123) [.agg [.int .i64 is0.1, .int .i64 is0.2.1, .sl (.sl (.int .i64)) is0.2.2.1, .sl (.sl (.int .i64)) is0.2.2.2]] []), (3, .bp 3 0), (8, .sl (.int .i64) (table.getD st1.toNat [])), (14, .sl (.sl (.int .i64)) table), (15, .int .i64 (table.length : Int)), (16, .int .i64 st1), (25, .bool (!(decide (((table.getD st1.toNat []).length : Int) = m.2.1))))] [(3, .box 115 [.int .i64 m.1, .int .i64 m.2.1, .sl (.sl (.int .i64)) m.2.2.1, .sl (.sl (.int .i64)) m.2.2.2])] ?_
    rcases zI h with ⟨hb10, h⟩ | ⟨hb10, h⟩
    ·refine zS 4 [(2, .fn (.func 123) [.agg [.int .i64 is0.1, .int .i64 is0.2.1, .sl (.sl (.int .i64)) is0.2.2.1, .sl (.sl (.int .i64)) is0.2.2.2]] []), (3, .bp 3 0), (14, .sl (.sl (.int .i64)) table), (15, .int .i64 (table.length : Int)), (16, .int .i64 st1), (25, .bool true), (29, .cv (undef))] [(3, .box 115 [.int .i64 m.1, .int .i64 m.2.1, .sl (.sl (.int .i64)) m.2.2.1, .sl (.sl (.int .i64)) m.2.2.2])] ?_
     refine zB [(2, .fn (.func 123) [.agg [.int .i64 is0.1, .int .i64 is0.2.1, .sl (.sl (.int .i64)) is0.2.2.1, .sl (.sl (.int .i64)) is0.2.2.2]] []), (3, .bp 3 0), (14, .sl (.sl (.int .i64)) table), (15, .int .i64 (table.length : Int)), (16, .int .i64 st1), (30, .bool true)] [(3, .box 115 [.int .i64 m.1, .int .i64 m.2.1, .sl (.sl (.int .i64)) m.2.2.1, .sl (.sl (.int .i64)) m.2.2.2])] ?_
     refine AW.cond (b := true) rfl (fun _ => ?_) (fun hb11 => by cases hb11)
     refine zo ?_
     refine zB [(6, .bool false)] [] ?_
     refine AW.ret ?_
     refine ablock_r ?_
     refine athen_r ?_
     obtain rfl := Option.some.inj h
     rw [← hd4 _ rfl] at ho3
     have h := ho3
     try simp only at h
     refine athen_r ?_
     refine ablock_r ?_
     refine athen_r ?_
     obtain rfl := Option.some.inj h
     exact zR [] [] []
    ·refine zS 2 [(2, .fn (.func 123) [.agg [.int .i64 is0.1, .int .i64 is0.2.1, .sl (.sl (.int .i64)) is0.2.2.1, .sl (.sl (.int .i64)) is0.2.2.2]] []), (3, .bp 3 0), (14, .sl (.sl (.int .i64)) table), (15, .int .i64 (table.length : Int)), (16, .int .i64 st1), (25, .bool false), (26, .fn (.func 123) [.agg [.int .i64 is0.1, .int .i64 is0.2.1, .sl (.sl (.int .i64)) is0.2.2.1, .sl (.sl (.int .i64)) is0.2.2.2]] []), (27, .sl (.int .i64) (table.getD st1.toNat []))] [(3, .box 115 [.int .i64 m.1, .int .i64 m.2.1, .sl (.sl (.int .i64)) m.2.2.1, .sl (.sl (.int .i64)) m.2.2.2])] ?_
     obtain ⟨v0, hv12, h⟩ := Option.bind_eq_some_iff.1 h
     refine zG [] [] (hc_spec_all is0 (table.getD st1.toNat []) hv12) [(2, .fn (.func 123) [.agg [.int .i64 is0.1, .int .i64 is0.2.1, .sl (.sl (.int .i64)) is0.2.2.1, .sl (.sl (.int .i64)) is0.2.2.2]] []), (3, .bp 3 0), (14, .sl (.sl (.int .i64)) table), (15, .int .i64 (table.length : Int)), (16, .int .i64 st1), (25, .bool false), (28, .bool v0)] [(3, .box 115 [.int .i64 m.1, .int .i64 m.2.1, .sl (.sl (.int .i64)) m.2.2.1, .sl (.sl (.int .i64)) m.2.2.2])] ?_
     refine zB [(2, .fn (.func 123) [.agg [.int .i64 is0.1, .int .i64 is0.2.1, .sl (.sl (.int .i64)) is0.2.2.1, .sl (.sl (.int .i64)) is0.2.2.2]] []), (3, .bp 3 0), (14, .sl (.sl (.int .i64)) table), (15, .int .i64 (table.length : Int)), (16, .int .i64 st1), (30, .bool (!v0))] [(3, .box 115 [.int .i64 m.1, .int .i64 m.2.1, .sl (.sl (.int .i64)) m.2.2.1, .sl (.sl (.int .i64)) m.2.2.2])] ?_
     refine zQ h (fun hb13 h => ?_) (fun hb13 h => ?_)
     ·refine zo ?_
      refine zB [(6, .bool false)] [] ?_
      refine AW.ret ?_
      refine ablock_r ?_
      refine athen_r ?_
      obtain rfl := Option.some.inj h
      rw [← hd4 _ rfl] at ho3
      have h := ho3
      try simp only at h
      refine athen_r ?_
      refine ablock_r ?_
      refine athen_r ?_
      obtain rfl := Option.some.inj h
      exact zR [] [] []
     ·refine zm ?_
      refine athen_n ?_
      refine AW.ops ?_
      obtain ⟨c14, h⟩ := ck_some.1 h
      refine zA [(2, .fn (.func 123) [.agg [.int .i64 is0.1, .int .i64 is0.2.1, .sl (.sl (.int .i64)) is0.2.2.1, .sl (.sl (.int .i64)) is0.2.2.2]] []), (3, .bp 3 0), (14, .sl (.sl (.int .i64)) table), (15, .int .i64 (table.length : Int)), (16, .int .i64 (st1 + 1))] [(3, .box 115 [.int .i64 m.1, .int .i64 m.2.1, .sl (.sl (.int .i64)) m.2.2.1, .sl (.sl (.int .i64)) m.2.2.2])] ?_
      obtain rfl := Option.some.inj h
      exact ⟨_, rfl, zL [] [] []⟩
   ·refine AW.exit ?_
    refine athen_e ?_
    obtain rfl := Option.some.inj h
    rw [← hd4 _ rfl] at ho3
    have h := ho3
    try simp only at h
    refine athen_e ?_
    refine ablock_s ?_
    refine athen_n ?_
    exact AW.weaken (zL [] [] []) (hk_spec_machine_isTable_k1 () h)

theorem hc_spec_isAnswer (n : Int) {r : Bool} (h : spec_isAnswer n = some r) : HC Try.prog 124 [] [.int .i64 n] [] (.bool r) := by
 unfold spec_isAnswer at h
 refine zH Try.func124 [.tmp 2] 9 ?_
 refine zo ?_
 refine zB [(0, .int .i64 n)] [] ?_
 refine zo ?_
 refine zS 3 [(0, .int .i64 n), (5, .bool (decide (0 ≤ n)))] [] ?_
 rcases zI h with ⟨hb1, h⟩ | ⟨hb1, h⟩
 ·refine zB [(2, .bool (decide (n ≤ 5)))] [] ?_
  refine AW.ret ?_
  obtain rfl := Option.some.inj h
  exact zR [] [] []
 ·refine zB [(2, .bool false)] [] ?_
  refine AW.ret ?_
  obtain rfl := Option.some.inj h
  exact zR [] [] []

theorem hc_spec_all_2 (numbers : List Int) {r : Bool} (h : spec_all_2 numbers = some r) : HC Try.prog 129 [] [.fn (.func 124) [] [], .sl (.int .i64) numbers] [] (.bool r) := by
 unfold spec_all_2 at h
 refine zH Try.func129 [.tmp 4] 18 ?_
 refine zo ?_
 refine zB [(0, .fn (.func 124) [] []), (1, .sl (.int .i64) numbers)] [] ?_
 refine AW.have1 (fun _ : Unit => spec_all_2_k1 = some r) (fun _ => ⟨fr [], hpGet [], gt⟩) (fun _ h => ?_) (fun hk_spec_all_2_k1 => ?_)
 ·unfold spec_all_2_k1 at h
  refine zo ?_
  refine zB [(4, .bool true)] [] ?_
  refine AW.ret ?_
  obtain rfl := Option.some.inj h
  exact zR [] [] []
 ·refine AW.seq ?_
  refine zo ?_
  refine zB [(0, .fn (.func 124) [] []), (7, .sl (.int .i64) numbers), (8, .int .i64 (numbers.length : Int)), (9, .int .i64 0)] [] ?_
  refine AW.block ?_
  obtain ⟨rv5, hw1, ho2⟩ := Option.bind_eq_some_iff.1 h
  refine AW.loopO (spec_all_2_b1 numbers) (fun st1 => ⟨fr [(0, .fn (.func 124) [] []), (7, .sl (.int .i64) numbers), (8, .int .i64 (numbers.length : Int)), (9, .int .i64 st1)], hpGet [], gt⟩) 0 hw1 (zL [] [] []) ?_
  intro st1 x4 h hd3
  unfold spec_all_2_b1 at h
  refine zo ?_
  refine zB [(0, .fn (.func 124) [] []), (7, .sl (.int .i64) numbers), (8, .int .i64 (numbers.length : Int)), (9, .int .i64 st1), (10, .bool (decide (st1 < (numbers.length : Int))))] [] ?_
  refine AW.seq ?_
  refine zQ h (fun hb6 h => ?_) (fun hb6 h => ?_)
  ·refine zk ?_
   refine AW.seq ?_
   refine AW.block ?_
   refine zo ?_
   obtain ⟨c7, h⟩ := ck_some.1 h
   obtain ⟨c8, h⟩ := ck_some.1 h
   refine zB [(0, .fn (.func 124) [] []), (6, .int .i64 (numbers.getD st1.toNat 0)), (7, .sl (.int .i64) numbers), (8, .int .i64 (numbers.length : Int)), (9, .int .i64 st1)] [] ?_
   refine zo ?_
   refine zS 2 [(0, .fn (.func 124) [] []), (7, .sl (.int .i64) numbers), (8, .int .i64 (numbers.length : Int)), (9, .int .i64 st1), (13, .fn (.func 124) [] []), (14, .int .i64 (numbers.getD st1.toNat 0))] [] ?_
   obtain ⟨v0, hv9, h⟩ := Option.bind_eq_some_iff.1 h
   refine zC [] [] (hc_spec_isAnswer (numbers.getD st1.toNat 0) hv9) [(0, .fn (.func 124) [] []), (7, .sl (.int .i64) numbers), (8, .int .i64 (numbers.length : Int)), (9, .int .i64 st1), (15, .bool v0)] [] ?_
   refine zB [(0, .fn (.func 124) [] []), (7, .sl (.int .i64) numbers), (8, .int .i64 (numbers.length : Int)), (9, .int .i64 st1), (16, .bool (!v0))] [] ?_
   refine zQ h (fun hb10 h => ?_) (fun hb10 h => ?_)
   ·refine zo ?_
    refine zB [(4, .bool false)] [] ?_
    refine AW.ret ?_
    refine ablock_r ?_
    refine athen_r ?_
    obtain rfl := Option.some.inj h
    rw [← hd3 _ rfl] at ho2
    have h := ho2
    try simp only at h
    refine athen_r ?_
    refine ablock_r ?_
    refine athen_r ?_
    obtain rfl := Option.some.inj h
    exact zR [] [] []
   ·refine zm ?_
    refine athen_n ?_
    refine AW.ops ?_
    obtain ⟨c11, h⟩ := ck_some.1 h
    refine zA [(0, .fn (.func 124) [] []), (7, .sl (.int .i64) numbers), (8, .int .i64 (numbers.length : Int)), (9, .int .i64 (st1 + 1))] [] ?_
    obtain rfl := Option.some.inj h
    exact ⟨_, rfl, zL [] [] []⟩
  ·refine AW.exit ?_
   refine athen_e ?_
   obtain rfl := Option.some.inj h
   rw [← hd3 _ rfl] at ho2
   have h := ho2
   try simp only at h
   refine athen_e ?_
   refine ablock_s ?_
   refine athen_n ?_
   exact AW.weaken (zL [] [] []) (hk_spec_all_2_k1 () h)

theorem hc_spec_machine_isTable_2 (m : Int × Int × (List (List Int)) × (List (List Int))) (table : List (List Int)) {r : Bool} (h : spec_machine_isTable_2 m table = some r) : HC Try.prog 122 [] [.agg [.int .i64 m.1, .int .i64 m.2.1, .sl (.sl (.int .i64)) m.2.2.1, .sl (.sl (.int .i64)) m.2.2.2], .sl (.sl (.int .i64)) table, .fn (.func 124) [] []] [] (.bool r) := by
 unfold spec_machine_isTable_2 at h
 refine zH Try.func122 [.tmp 6] 32 ?_
 refine zo ?_
 refine zB [(1, .sl (.sl (.int .i64)) table), (2, .fn (.func 124) [] []), (3, .bp 3 0)] [(3, .box 115 [.int .i64 m.1, .int .i64 m.2.1, .sl (.sl (.int .i64)) m.2.2.1, .sl (.sl (.int .i64)) m.2.2.2])] ?_
 refine AW.seq ?_
 refine zo ?_
 refine zB [(1, .sl (.sl (.int .i64)) table), (2, .fn (.func 124) [] []), (3, .bp 3 0), (13, .bool (!(decide ((table.length : Int) = m.1))))] [(3, .box 115 [.int .i64 m.1, .int .i64 m.2.1, .sl (.sl (.int .i64)) m.2.2.1, .sl (.sl (.int .i64)) m.2.2.2])] ?_
 refine zQ h (fun hb1 h => ?_) (fun hb1 h => ?_)
 ·refine zo ?_
  refine zB [(6, .bool false)] [] ?_
  refine zr ?_
  obtain rfl := Option.some.inj h
  exact zR [] [] []
 ·refine zk ?_
  refine AW.have1 (fun _ : Unit => spec_machine_isTable_2_k1 = some r) (fun _ => ⟨fr [], hpGet [], gt⟩) (fun _ h => ?_) (fun hk_spec_machine_isTable_2_k1 => ?_)
  ·unfold spec_machine_isTable_2_k1 at h
   refine zo ?_
   refine zB [(6, .bool true)] [] ?_
   refine AW.ret ?_
   obtain rfl := Option.some.inj h
   exact zR [] [] []
  ·refine AW.seq ?_
   refine zo ?_
   refine zB [(2, .fn (.func 124) [] []), (3, .bp 3 0), (14, .sl (.sl (.int .i64)) table), (15, .int .i64 (table.length : Int)), (16, .int .i64 0)] [(3, .box 115 [.int .i64 m.1, .int .i64 m.2.1, .sl (.sl (.int .i64)) m.2.2.1, .sl (.sl (.int .i64)) m.2.2.2])] ?_
   refine AW.block ?_
   obtain ⟨rv6, hw2, ho3⟩ := Option.bind_eq_some_iff.1 h
   refine AW.loopO (spec_machine_isTable_2_b1 m table) (fun st1 => ⟨fr [(2, .fn (.func 124) [] []), (3, .bp 3 0), (14, .sl (.sl (.int .i64)) table), (15, .int .i64 (table.length : Int)), (16, .int .i64 st1)], hpGet [(3, .box 115 [.int .i64 m.1, .int .i64 m.2.1, .sl (.sl (.int .i64)) m.2.2.1, .sl (.sl (.int .i64)) m.2.2.2])], gt⟩) 0 hw2 (zL [] [] []) ?_
   intro st1 x5 h hd4
   unfold spec_machine_isTable_2_b1 at h
   refine zo ?_
   refine zB [(2, .fn (.func 124) [] []), (3, .bp 3 0), (14, .sl (.sl (.int .i64)) table), (15, .int .i64 (table.length : Int)), (16, .int .i64 st1), (17, .bool (decide (st1 < (table.length : Int))))] [(3, .box 115 [.int .i64 m.1, .int .i64 m.2.1, .sl (.sl (.int .i64)) m.2.2.1, .sl (.sl (.int .i64)) m.2.2.2])] ?_
   refine AW.seq ?_
   refine zQ h (fun hb7 h => ?_) (fun hb7 h => ?_)
   ·refine zk ?_
    refine AW.seq ?_
    refine AW.block ?_
    refine zo ?_
    obtain ⟨c8, h⟩ := ck_some.1 h
    obtain ⟨c9, h⟩ := ck_some.1 h
    refine zB [(2, .fn (.func 124) [] []), (3, .bp 3 0), (8, .sl (.int .i64) (table.getD st1.toNat [])), (14, .sl (.sl (.int .i64)) table), (15, .int .i64 (table.length : Int)), (16, .int .i64 st1)] [(3, .box 115 [.int .i64 m.1, .int .i64 m.2.1, .sl (.sl (.int .i64)) m.2.2.1, .sl (.sl (.int .i64)) m.2.2.2])] ?_
    refine zo ?_
    refine zS 6 [(2, .fn (.func 124) [] []), (3, .bp 3 0), (8, .sl (.int .i64) (table.getD st1.toNat [])), (14, .sl (.sl (.int .i64)) table), (15, .int .i64 (table.length : Int)), (16, .int .i64 st1), (25, .bool (!(decide (((table.getD st1.toNat []).length : Int) = m.2.1))))] [(3, .box 115 [.int .i64 m.1, .int .i64 m.2.1, .sl (.sl (.int .i64)) m.2.2.1, .sl (.sl (.int .i64)) m.2.2.2])] ?_
    rcases zI h with ⟨hb10, h⟩ | ⟨hb10, h⟩
    ·refine zS 4 [(2, .fn (.func 124) [] []), (3, .bp 3 0), (14, .sl (.sl (.int .i64)) table), (15, .int .i64 (table.length : Int)), (16, .int .i64 st1), (25, .bool true), (29, .cv (undef))] [(3, .box 115 [.int .i64 m.1, .int .i64 m.2.1, .sl (.sl (.int .i64)) m.2.2.1, .sl (.sl (.int .i64)) m.2.2.2])] ?_
     refine zB [(2, .fn (.func 124) [] []), (3, .bp 3 0), (14, .sl (.sl (.int .i64)) table), (15, .int .i64 (table.length : Int)), (16, .int .i64 st1), (30, .bool true)] [(3, .box 115 [.int .i64 m.1, .int .i64 m.2.1, .sl (.sl (.int .i64)) m.2.2.1, .sl (.sl (.int .i64)) m.2.2.2])] ?_
     refine AW.cond (b := true) rfl (fun _ => ?_) (fun hb11 => by cases hb11)
     refine zo ?_
     refine zB [(6, .bool false)] [] ?_
     refine AW.ret ?_
     refine ablock_r ?_
     refine athen_r ?_
     obtain rfl := Option.some.inj h
     rw [← hd4 _ rfl] at ho3
     have h := ho3
     try simp only at h
     refine athen_r ?_
     refine ablock_r ?_
     refine athen_r ?_
     obtain rfl := Option.some.inj h
     exact zR [] [] []
    ·refine zS 2 [(2, .fn (.func 124) [] []), (3, .bp 3 0), (14, .sl (.sl (.int .i64)) table), (15, .int .i64 (table.length : Int)), (16, .int .i64 st1), (25, .bool false), (26, .fn (.func 124) [] []), (27, .sl (.int .i64) (table.getD st1.toNat []))] [(3, .box 115 [.int .i64 m.1, .int .i64 m.2.1, .sl (.sl (.int .i64)) m.2.2.1, .sl (.sl (.int .i64)) m.2.2.2])] ?_
     obtain ⟨v0, hv12, h⟩ := Option.bind_eq_some_iff.1 h
     refine zG [] [] (hc_spec_all_2 (table.getD st1.toNat []) hv12) [(2, .fn (.func 124) [] []), (3, .bp 3 0), (14, .sl (.sl (.int .i64)) table), (15, .int .i64 (table.length : Int)), (16, .int .i64 st1), (25, .bool false), (28, .bool v0)] [(3, .box 115 [.int .i64 m.1, .int .i64 m.2.1, .sl (.sl (.int .i64)) m.2.2.1, .sl (.sl (.int .i64)) m.2.2.2])] ?_
     refine zB [(2, .fn (.func 124) [] []), (3, .bp 3 0), (14, .sl (.sl (.int .i64)) table), (15, .int .i64 (table.length : Int)), (16, .int .i64 st1), (30, .bool (!v0))] [(3, .box 115 [.int .i64 m.1, .int .i64 m.2.1, .sl (.sl (.int .i64)) m.2.2.1, .sl (.sl (.int .i64)) m.2.2.2])] ?_
     refine zQ h (fun hb13 h => ?_) (fun hb13 h => ?_)
     ·refine zo ?_
      refine zB [(6, .bool false)] [] ?_
      refine AW.ret ?_
      refine ablock_r ?_
      refine athen_r ?_
      obtain rfl := Option.some.inj h
      rw [← hd4 _ rfl] at ho3
      have h := ho3
      try simp only at h
      refine athen_r ?_
      refine ablock_r ?_
      refine athen_r ?_
      obtain rfl := Option.some.inj h
      exact zR [] [] []
     ·refine zm ?_
      refine athen_n ?_
      refine AW.ops ?_
      obtain ⟨c14, h⟩ := ck_some.1 h
      refine zA [(2, .fn (.func 124) [] []), (3, .bp 3 0), (14, .sl (.sl (.int .i64)) table), (15, .int .i64 (table.length : Int)), (16, .int .i64 (st1 + 1))] [(3, .box 115 [.int .i64 m.1, .int .i64 m.2.1, .sl (.sl (.int .i64)) m.2.2.1, .sl (.sl (.int .i64)) m.2.2.2])] ?_
      obtain rfl := Option.some.inj h
      exact ⟨_, rfl, zL [] [] []⟩
   ·refine AW.exit ?_
    refine athen_e ?_
    obtain rfl := Option.some.inj h
    rw [← hd4 _ rfl] at ho3
    have h := ho3
    try simp only at h
    refine athen_e ?_
    refine ablock_s ?_
    refine athen_n ?_
    exact AW.weaken (zL [] [] []) (hk_spec_machine_isTable_2_k1 () h)

theorem hc_spec_Valid (s : Int × Int × (List (List Int)) × (List (List Int))) {r : Bool} (h : spec_Valid s = some r) : HC Try.prog 115 [] [.agg [.int .i64 s.1, .int .i64 s.2.1, .sl (.sl (.int .i64)) s.2.2.1, .sl (.sl (.int .i64)) s.2.2.2]] [] (.bool r) := by
 unfold spec_Valid at h
 refine zH Try.func115 [.tmp 2] 35 ?_
 refine zo ?_
 refine zB [(1, .bp 1 0)] [(1, .box 64 [.int .i64 s.1, .int .i64 s.2.1, .sl (.sl (.int .i64)) s.2.2.1, .sl (.sl (.int .i64)) s.2.2.2])] ?_
 refine AW.seq ?_
 refine zo ?_
 refine zS 4 [(1, .bp 1 0), (7, .bool (decide (s.1 < 1)))] [(1, .box 64 [.int .i64 s.1, .int .i64 s.2.1, .sl (.sl (.int .i64)) s.2.2.1, .sl (.sl (.int .i64)) s.2.2.2])] ?_
 rcases zI h with ⟨hb1, h⟩ | ⟨hb1, h⟩
 ·refine zS 6 [(1, .bp 1 0), (12, .bool true), (13, .cv (undef))] [(1, .box 64 [.int .i64 s.1, .int .i64 s.2.1, .sl (.sl (.int .i64)) s.2.2.1, .sl (.sl (.int .i64)) s.2.2.2])] ?_
  refine zS 6 [(1, .bp 1 0), (17, .bool true), (19, .cv (undef))] [(1, .box 64 [.int .i64 s.1, .int .i64 s.2.1, .sl (.sl (.int .i64)) s.2.2.1, .sl (.sl (.int .i64)) s.2.2.2])] ?_
  refine zB [(1, .bp 1 0), (21, .bool true)] [(1, .box 64 [.int .i64 s.1, .int .i64 s.2.1, .sl (.sl (.int .i64)) s.2.2.1, .sl (.sl (.int .i64)) s.2.2.2])] ?_
  refine AW.cond (b := true) rfl (fun _ => ?_) (fun hb2 => by cases hb2)
  refine zo ?_
  refine zB [(2, .bool false)] [] ?_
  refine zr ?_
  obtain rfl := Option.some.inj h
  exact zR [] [] []
 ·refine zS 5 [(1, .bp 1 0), (12, .bool (decide (8 < s.1)))] [(1, .box 64 [.int .i64 s.1, .int .i64 s.2.1, .sl (.sl (.int .i64)) s.2.2.1, .sl (.sl (.int .i64)) s.2.2.2])] ?_
  rcases zI h with ⟨hb3, h⟩ | ⟨hb3, h⟩
  ·refine zS 6 [(1, .bp 1 0), (17, .bool true), (18, .cv (undef))] [(1, .box 64 [.int .i64 s.1, .int .i64 s.2.1, .sl (.sl (.int .i64)) s.2.2.1, .sl (.sl (.int .i64)) s.2.2.2])] ?_
   refine zB [(1, .bp 1 0), (21, .bool true)] [(1, .box 64 [.int .i64 s.1, .int .i64 s.2.1, .sl (.sl (.int .i64)) s.2.2.1, .sl (.sl (.int .i64)) s.2.2.2])] ?_
   refine AW.cond (b := true) rfl (fun _ => ?_) (fun hb4 => by cases hb4)
   refine zo ?_
   refine zB [(2, .bool false)] [] ?_
   refine zr ?_
   obtain rfl := Option.some.inj h
   exact zR [] [] []
  ·refine zS 5 [(1, .bp 1 0), (17, .bool (decide (s.2.1 < 1)))] [(1, .box 64 [.int .i64 s.1, .int .i64 s.2.1, .sl (.sl (.int .i64)) s.2.2.1, .sl (.sl (.int .i64)) s.2.2.2])] ?_
   rcases zI h with ⟨hb5, h⟩ | ⟨hb5, h⟩
   ·refine zB [(1, .bp 1 0), (21, .bool true)] [(1, .box 64 [.int .i64 s.1, .int .i64 s.2.1, .sl (.sl (.int .i64)) s.2.2.1, .sl (.sl (.int .i64)) s.2.2.2])] ?_
    refine AW.cond (b := true) rfl (fun _ => ?_) (fun hb6 => by cases hb6)
    refine zo ?_
    refine zB [(2, .bool false)] [] ?_
    refine zr ?_
    obtain rfl := Option.some.inj h
    exact zR [] [] []
   ·refine zB [(1, .bp 1 0), (21, .bool (decide (4 < s.2.1)))] [(1, .box 64 [.int .i64 s.1, .int .i64 s.2.1, .sl (.sl (.int .i64)) s.2.2.1, .sl (.sl (.int .i64)) s.2.2.2])] ?_
    refine zQ h (fun hb7 h => ?_) (fun hb7 h => ?_)
    ·refine zo ?_
     refine zB [(2, .bool false)] [] ?_
     refine zr ?_
     obtain rfl := Option.some.inj h
     exact zR [] [] []
    ·refine zk ?_
     refine zo ?_
     refine zB [(1, .bp 1 0), (3, .bp 3 0)] [(1, .box 64 [.int .i64 s.1, .int .i64 s.2.1, .sl (.sl (.int .i64)) s.2.2.1, .sl (.sl (.int .i64)) s.2.2.2]), (3, .box 115 [.int .i64 s.1, .int .i64 s.2.1, .sl (.sl (.int .i64)) s.2.2.1, .sl (.sl (.int .i64)) s.2.2.2])] ?_
     refine zo ?_
     refine zS 5 [(1, .bp 1 0), (3, .bp 3 0), (23, .agg [.int .i64 s.1, .int .i64 s.2.1, .sl (.sl (.int .i64)) s.2.2.1, .sl (.sl (.int .i64)) s.2.2.2]), (25, .sl (.sl (.int .i64)) s.2.2.1), (27, .fn (.func 123) [.agg [.int .i64 s.1, .int .i64 s.2.1, .sl (.sl (.int .i64)) s.2.2.1, .sl (.sl (.int .i64)) s.2.2.2]] [])] [(1, .box 64 [.int .i64 s.1, .int .i64 s.2.1, .sl (.sl (.int .i64)) s.2.2.1, .sl (.sl (.int .i64)) s.2.2.2]), (3, .box 115 [.int .i64 s.1, .int .i64 s.2.1, .sl (.sl (.int .i64)) s.2.2.1, .sl (.sl (.int .i64)) s.2.2.2])] ?_
     obtain ⟨v0, hv8, h⟩ := Option.bind_eq_some_iff.1 h
     refine zC [] [] (hc_spec_machine_isTable s s.2.2.1 s hv8) [(1, .bp 1 0), (3, .bp 3 0), (28, .bool v0)] [(1, .box 64 [.int .i64 s.1, .int .i64 s.2.1, .sl (.sl (.int .i64)) s.2.2.1, .sl (.sl (.int .i64)) s.2.2.2]), (3, .box 115 [.int .i64 s.1, .int .i64 s.2.1, .sl (.sl (.int .i64)) s.2.2.1, .sl (.sl (.int .i64)) s.2.2.2])] ?_
     refine zS 1 [(1, .bp 1 0), (3, .bp 3 0), (29, .bool v0)] [(1, .box 64 [.int .i64 s.1, .int .i64 s.2.1, .sl (.sl (.int .i64)) s.2.2.1, .sl (.sl (.int .i64)) s.2.2.2]), (3, .box 115 [.int .i64 s.1, .int .i64 s.2.1, .sl (.sl (.int .i64)) s.2.2.1, .sl (.sl (.int .i64)) s.2.2.2])] ?_
     rcases zI h with ⟨hb9, h⟩ | ⟨hb9, h⟩
     ·refine zS 3 [(29, .bool true), (30, .agg [.int .i64 s.1, .int .i64 s.2.1, .sl (.sl (.int .i64)) s.2.2.1, .sl (.sl (.int .i64)) s.2.2.2]), (32, .sl (.sl (.int .i64)) s.2.2.2)] [] ?_
      obtain ⟨v0_2, hv10, h⟩ := Option.bind_eq_some_iff.1 h
      refine zG [] [] (hc_spec_machine_isTable_2 s s.2.2.2 hv10) [(29, .bool true), (33, .bool v0_2)] [] ?_
      refine zB [(2, .bool v0_2)] [] ?_
      refine AW.ret ?_
      obtain rfl := Option.some.inj h
      exact zR [] [] []
     ·refine zS 4 [(29, .bool false), (33, .cv (undef))] [] ?_
      refine zB [(2, .bool false)] [] ?_
      refine AW.ret ?_
      obtain rfl := Option.some.inj h
      exact zR [] [] []

theorem hc_history_checkSpecs (specs : ZS) {r : Int} (h : history_checkSpecs specs = some r) : HC Try.prog 59 [] [.sl Y0 specs] [] (.int .i64 r) := by
 unfold history_checkSpecs at h
 refine zH Try.func59 [.tmp 2] 19 ?_
 refine zo ?_
 refine zB [(0, .sl Y0 specs)] [] ?_
 refine AW.seq ?_
 refine zo ?_
 refine zS 2 [(0, .sl Y0 specs), (6, .int .i64 (specs.length : Int))] [] ?_
 obtain ⟨v0, hv1, h⟩ := Option.bind_eq_some_iff.1 h
 refine zC [] [] (hc_history_within (specs.length : Int) 1 2 hv1) [(0, .sl Y0 specs), (7, .bool v0)] [] ?_
 refine zB [(0, .sl Y0 specs), (8, .bool (!v0))] [] ?_
 refine zQ h (fun hb2 h => ?_) (fun hb2 h => ?_)
 ·refine zo ?_
  refine zB [(2, .int .i64 10)] [] ?_
  refine zr ?_
  obtain rfl := Option.some.inj h
  exact zR [] [] []
 ·refine zk ?_
  refine AW.have1 (fun _ : Unit => history_checkSpecs_k1 = some r) (fun _ => ⟨fr [], hpGet [], gt⟩) (fun _ h => ?_) (fun hk_history_checkSpecs_k1 => ?_)
  ·unfold history_checkSpecs_k1 at h
   refine zo ?_
   refine zB [(2, .int .i64 0)] [] ?_
   refine AW.ret ?_
   obtain rfl := Option.some.inj h
   exact zR [] [] []
  ·refine AW.seq ?_
   refine zo ?_
   refine zB [(9, .sl Y0 specs), (10, .int .i64 (specs.length : Int)), (11, .int .i64 0)] [] ?_
   refine AW.block ?_
   obtain ⟨rv7, hw3, ho4⟩ := Option.bind_eq_some_iff.1 h
   refine AW.loopO (history_checkSpecs_b1 specs) (fun st1 => ⟨fr [(9, .sl Y0 specs), (10, .int .i64 (specs.length : Int)), (11, .int .i64 st1)], hpGet [], gt⟩) 0 hw3 (zL [] [] []) ?_
   intro st1 x6 h hd5
   unfold history_checkSpecs_b1 at h
   refine zo ?_
   refine zB [(9, .sl Y0 specs), (10, .int .i64 (specs.length : Int)), (11, .int .i64 st1), (12, .bool (decide (st1 < (specs.length : Int))))] [] ?_
   refine AW.seq ?_
   refine zQ h (fun hb8 h => ?_) (fun hb8 h => ?_)
   ·refine zk ?_
    refine AW.seq ?_
    refine AW.block ?_
    refine zo ?_
    obtain ⟨c9, h⟩ := ck_some.1 h
    obtain ⟨c10, h⟩ := ck_some.1 h
    refine zB [(4, .bp 4 0), (9, .sl Y0 specs), (10, .int .i64 (specs.length : Int)), (11, .int .i64 st1)] [(4, .box 64 [.int .i64 (specs.getD st1.toNat (0, 0, [], [])).1, .int .i64 (specs.getD st1.toNat (0, 0, [], [])).2.1, .sl (.sl (.int .i64)) (specs.getD st1.toNat (0, 0, [], [])).2.2.1, .sl (.sl (.int .i64)) (specs.getD st1.toNat (0, 0, [], [])).2.2.2])] ?_
    refine zo ?_
    refine zS 1 [(9, .sl Y0 specs), (10, .int .i64 (specs.length : Int)), (11, .int .i64 st1), (15, .agg [.int .i64 (specs.getD st1.toNat (0, 0, [], [])).1, .int .i64 (specs.getD st1.toNat (0, 0, [], [])).2.1, .sl (.sl (.int .i64)) (specs.getD st1.toNat (0, 0, [], [])).2.2.1, .sl (.sl (.int .i64)) (specs.getD st1.toNat (0, 0, [], [])).2.2.2])] [] ?_
    obtain ⟨v0_2, hv11, h⟩ := Option.bind_eq_some_iff.1 h
    refine zC [] [] (hc_spec_Valid (specs.getD st1.toNat (0, 0, [], [])) hv11) [(9, .sl Y0 specs), (10, .int .i64 (specs.length : Int)), (11, .int .i64 st1), (16, .bool v0_2)] [] ?_
    refine zB [(9, .sl Y0 specs), (10, .int .i64 (specs.length : Int)), (11, .int .i64 st1), (17, .bool (!v0_2))] [] ?_
    refine zQ h (fun hb12 h => ?_) (fun hb12 h => ?_)
    ·refine zo ?_
     refine zB [(2, .int .i64 10)] [] ?_
     refine AW.ret ?_
     refine ablock_r ?_
     refine athen_r ?_
     obtain rfl := Option.some.inj h
     rw [← hd5 _ rfl] at ho4
     have h := ho4
     try simp only at h
     refine athen_r ?_
     refine ablock_r ?_
     refine athen_r ?_
     obtain rfl := Option.some.inj h
     exact zR [] [] []
    ·refine zm ?_
     refine athen_n ?_
     refine AW.ops ?_
     obtain ⟨c13, h⟩ := ck_some.1 h
     refine zA [(9, .sl Y0 specs), (10, .int .i64 (specs.length : Int)), (11, .int .i64 (st1 + 1))] [] ?_
     obtain rfl := Option.some.inj h
     exact ⟨_, rfl, zL [] [] []⟩
   ·refine AW.exit ?_
    refine athen_e ?_
    obtain rfl := Option.some.inj h
    rw [← hd5 _ rfl] at ho4
    have h := ho4
    try simp only at h
    refine athen_e ?_
    refine ablock_s ?_
    refine athen_n ?_
    exact AW.weaken (zL [] [] []) (hk_history_checkSpecs_k1 () h)

theorem hc_history_isCall (c : Int × Int × Int × Int × Int × Int) {r : Bool} (h : history_isCall c = some r) : HC Try.prog 70 [] [.agg [.int .i64 c.1, .int .i64 c.2.1, .int .i64 c.2.2.1, .int .i64 c.2.2.2.1, .int .i64 c.2.2.2.2.1, .int .i64 c.2.2.2.2.2]] [] (.bool r) := by
 unfold history_isCall at h
 refine zH Try.func70 [.tmp 2] 52 ?_
 refine zo ?_
 refine zB [(1, .bp 1 0)] [(1, .box 55 [.int .i64 c.1, .int .i64 c.2.1, .int .i64 c.2.2.1, .int .i64 c.2.2.2.1, .int .i64 c.2.2.2.2.1, .int .i64 c.2.2.2.2.2])] ?_
 refine AW.have1 (fun b1 : Bool => history_isCall_k1 c b1 = some r) (fun b1 => ⟨fr [(1, .bp 1 0), (3, .bool b1)], hpGet [(1, .box 55 [.int .i64 c.1, .int .i64 c.2.1, .int .i64 c.2.2.1, .int .i64 c.2.2.2.1, .int .i64 c.2.2.2.2.1, .int .i64 c.2.2.2.2.2])], gt⟩) (fun b1 h => ?_) (fun hk_history_isCall_k1 => ?_)
 ·unfold history_isCall_k1 at h
  refine AW.have1 (fun b2 : Bool => history_isCall_k2 c b1 b2 = some r) (fun b2 => ⟨fr [(1, .bp 1 0), (3, .bool b1), (4, .bool b2)], hpGet [(1, .box 55 [.int .i64 c.1, .int .i64 c.2.1, .int .i64 c.2.2.1, .int .i64 c.2.2.2.1, .int .i64 c.2.2.2.2.1, .int .i64 c.2.2.2.2.2])], gt⟩) (fun b2 h => ?_) (fun hk_history_isCall_k2 => ?_)
  ·unfold history_isCall_k2 at h
   refine zo ?_
   refine zS 2 [(1, .bp 1 0), (3, .bool b1), (4, .bool b2), (24, .int .i64 c.1)] [(1, .box 55 [.int .i64 c.1, .int .i64 c.2.1, .int .i64 c.2.2.1, .int .i64 c.2.2.2.1, .int .i64 c.2.2.2.2.1, .int .i64 c.2.2.2.2.2])] ?_
   obtain ⟨v0, hv1, h⟩ := Option.bind_eq_some_iff.1 h
   refine zC [] [] (hc_history_within c.1 0 3 hv1) [(1, .bp 1 0), (3, .bool b1), (4, .bool b2), (25, .bool v0)] [(1, .box 55 [.int .i64 c.1, .int .i64 c.2.1, .int .i64 c.2.2.1, .int .i64 c.2.2.2.1, .int .i64 c.2.2.2.2.1, .int .i64 c.2.2.2.2.2])] ?_
   refine zS 1 [(1, .bp 1 0), (3, .bool b1), (4, .bool b2), (26, .bool v0)] [(1, .box 55 [.int .i64 c.1, .int .i64 c.2.1, .int .i64 c.2.2.1, .int .i64 c.2.2.2.1, .int .i64 c.2.2.2.2.1, .int .i64 c.2.2.2.2.2])] ?_
   rcases zI h with ⟨hb2, h⟩ | ⟨hb2, h⟩
   ·refine zS 2 [(1, .bp 1 0), (3, .bool b1), (4, .bool b2), (26, .bool true), (28, .int .i64 c.2.1)] [(1, .box 55 [.int .i64 c.1, .int .i64 c.2.1, .int .i64 c.2.2.1, .int .i64 c.2.2.2.1, .int .i64 c.2.2.2.2.1, .int .i64 c.2.2.2.2.2])] ?_
    obtain ⟨v0_2, hv3, h⟩ := Option.bind_eq_some_iff.1 h
    refine zG [] [] (hc_history_within c.2.1 0 1 hv3) [(1, .bp 1 0), (3, .bool b1), (4, .bool b2), (26, .bool true), (29, .bool v0_2)] [(1, .box 55 [.int .i64 c.1, .int .i64 c.2.1, .int .i64 c.2.2.1, .int .i64 c.2.2.2.1, .int .i64 c.2.2.2.2.1, .int .i64 c.2.2.2.2.2])] ?_
    refine zS 2 [(1, .bp 1 0), (3, .bool b1), (4, .bool b2), (31, .bool v0_2)] [(1, .box 55 [.int .i64 c.1, .int .i64 c.2.1, .int .i64 c.2.2.1, .int .i64 c.2.2.2.1, .int .i64 c.2.2.2.2.1, .int .i64 c.2.2.2.2.2])] ?_
    rcases zI h with ⟨hb4, h⟩ | ⟨hb4, h⟩
    ·refine zS 2 [(1, .bp 1 0), (3, .bool b1), (4, .bool b2), (31, .bool true), (33, .int .i64 c.2.2.1)] [(1, .box 55 [.int .i64 c.1, .int .i64 c.2.1, .int .i64 c.2.2.1, .int .i64 c.2.2.2.1, .int .i64 c.2.2.2.2.1, .int .i64 c.2.2.2.2.2])] ?_
     obtain ⟨v0_3, hv5, h⟩ := Option.bind_eq_some_iff.1 h
     refine zG [] [] (hc_history_within c.2.2.1 0 3 hv5) [(1, .bp 1 0), (3, .bool b1), (4, .bool b2), (31, .bool true), (34, .bool v0_3)] [(1, .box 55 [.int .i64 c.1, .int .i64 c.2.1, .int .i64 c.2.2.1, .int .i64 c.2.2.2.1, .int .i64 c.2.2.2.2.1, .int .i64 c.2.2.2.2.2])] ?_
     refine zS 2 [(1, .bp 1 0), (3, .bool b1), (4, .bool b2), (36, .bool v0_3)] [(1, .box 55 [.int .i64 c.1, .int .i64 c.2.1, .int .i64 c.2.2.1, .int .i64 c.2.2.2.1, .int .i64 c.2.2.2.2.1, .int .i64 c.2.2.2.2.2])] ?_
     rcases zI h with ⟨hb6, h⟩ | ⟨hb6, h⟩
     ·refine zS 2 [(1, .bp 1 0), (3, .bool b1), (4, .bool b2), (36, .bool true), (38, .int .i64 c.2.2.2.1)] [(1, .box 55 [.int .i64 c.1, .int .i64 c.2.1, .int .i64 c.2.2.1, .int .i64 c.2.2.2.1, .int .i64 c.2.2.2.2.1, .int .i64 c.2.2.2.2.2])] ?_
      obtain ⟨v0_4, hv7, h⟩ := Option.bind_eq_some_iff.1 h
      refine zG [] [] (hc_history_within c.2.2.2.1 0 9 hv7) [(1, .bp 1 0), (3, .bool b1), (4, .bool b2), (36, .bool true), (39, .bool v0_4)] [(1, .box 55 [.int .i64 c.1, .int .i64 c.2.1, .int .i64 c.2.2.1, .int .i64 c.2.2.2.1, .int .i64 c.2.2.2.2.1, .int .i64 c.2.2.2.2.2])] ?_
      refine zS 2 [(1, .bp 1 0), (3, .bool b1), (4, .bool b2), (41, .bool v0_4)] [(1, .box 55 [.int .i64 c.1, .int .i64 c.2.1, .int .i64 c.2.2.1, .int .i64 c.2.2.2.1, .int .i64 c.2.2.2.2.1, .int .i64 c.2.2.2.2.2])] ?_
      rcases zI h with ⟨hb8, h⟩ | ⟨hb8, h⟩
      ·refine zS 2 [(3, .bool b1), (4, .bool b2), (41, .bool true), (43, .int .i64 c.2.2.2.2.1)] [] ?_
       obtain ⟨v0_5, hv9, h⟩ := Option.bind_eq_some_iff.1 h
       refine zG [] [] (hc_history_within c.2.2.2.2.1 1 100 hv9) [(3, .bool b1), (4, .bool b2), (41, .bool true), (44, .bool v0_5)] [] ?_
       refine zS 2 [(3, .bool b1), (4, .bool b2), (46, .bool v0_5)] [] ?_
       rcases zI h with ⟨hb10, h⟩ | ⟨hb10, h⟩
       ·refine zS 2 [(4, .bool b2), (46, .bool true), (48, .bool b1)] [] ?_
        rcases zI h with ⟨hb11, h⟩ | ⟨hb11, h⟩
        ·refine zB [(2, .bool true)] [] ?_
         refine AW.ret ?_
         obtain rfl := Option.some.inj h
         exact zR [] [] []
        ·refine zB [(2, .bool b2)] [] ?_
         refine AW.ret ?_
         obtain rfl := Option.some.inj h
         exact zR [] [] []
       ·refine zS 4 [(46, .bool false), (50, .cv (undef))] [] ?_
        refine zB [(2, .bool false)] [] ?_
        refine AW.ret ?_
        obtain rfl := Option.some.inj h
        exact zR [] [] []
      ·refine zS 6 [(4, .bool b2), (46, .bool false), (47, .cv (undef))] [] ?_
       refine zB [(2, .bool false)] [] ?_
       refine AW.ret ?_
       obtain rfl := Option.some.inj h
       exact zR [] [] []
     ·refine zS 6 [(3, .bool b1), (4, .bool b2), (41, .bool false), (42, .cv (undef))] [] ?_
      refine zS 6 [(4, .bool b2), (46, .bool false), (48, .cv (undef))] [] ?_
      refine zB [(2, .bool false)] [] ?_
      refine AW.ret ?_
      obtain rfl := Option.some.inj h
      exact zR [] [] []
    ·refine zS 6 [(1, .bp 1 0), (3, .bool b1), (4, .bool b2), (36, .bool false), (37, .cv (undef))] [(1, .box 55 [.int .i64 c.1, .int .i64 c.2.1, .int .i64 c.2.2.1, .int .i64 c.2.2.2.1, .int .i64 c.2.2.2.2.1, .int .i64 c.2.2.2.2.2])] ?_
     refine zS 6 [(3, .bool b1), (4, .bool b2), (41, .bool false), (43, .cv (undef))] [] ?_
     refine zS 6 [(46, .bool false), (48, .cv (undef)), (49, .cv (undef))] [] ?_
     refine zB [(2, .bool false)] [] ?_
     refine AW.ret ?_
     obtain rfl := Option.some.inj h
     exact zR [] [] []
   ·refine zS 6 [(1, .bp 1 0), (3, .bool b1), (4, .bool b2), (31, .bool false), (32, .cv (undef))] [(1, .box 55 [.int .i64 c.1, .int .i64 c.2.1, .int .i64 c.2.2.1, .int .i64 c.2.2.2.1, .int .i64 c.2.2.2.2.1, .int .i64 c.2.2.2.2.2])] ?_
    refine zS 6 [(1, .bp 1 0), (3, .bool b1), (4, .bool b2), (36, .bool false), (38, .cv (undef))] [(1, .box 55 [.int .i64 c.1, .int .i64 c.2.1, .int .i64 c.2.2.1, .int .i64 c.2.2.2.1, .int .i64 c.2.2.2.2.1, .int .i64 c.2.2.2.2.2])] ?_
    refine zS 6 [(3, .bool b1), (4, .bool b2), (41, .bool false), (44, .cv (undef))] [] ?_
    refine zS 6 [(46, .bool false), (50, .cv (undef))] [] ?_
    refine zB [(2, .bool false)] [] ?_
    refine AW.ret ?_
    obtain rfl := Option.some.inj h
    exact zR [] [] []
  ·refine zo ?_
   refine zS 6 [(1, .bp 1 0), (3, .bool b1), (18, .bool (decide (c.2.2.2.2.1 < c.2.2.2.2.2)))] [(1, .box 55 [.int .i64 c.1, .int .i64 c.2.1, .int .i64 c.2.2.1, .int .i64 c.2.2.2.1, .int .i64 c.2.2.2.2.1, .int .i64 c.2.2.2.2.2])] ?_
   rcases zI h with ⟨hb12, h⟩ | ⟨hb12, h⟩
   ·refine zB [(1, .bp 1 0), (3, .bool b1), (4, .bool (decide (c.2.2.2.2.2 ≤ 100)))] [(1, .box 55 [.int .i64 c.1, .int .i64 c.2.1, .int .i64 c.2.2.1, .int .i64 c.2.2.2.1, .int .i64 c.2.2.2.2.1, .int .i64 c.2.2.2.2.2])] ?_
    exact AW.weaken (zL [] [] []) (hk_history_isCall_k2 _ h)
   ·refine zB [(1, .bp 1 0), (3, .bool b1), (4, .bool false)] [(1, .box 55 [.int .i64 c.1, .int .i64 c.2.1, .int .i64 c.2.2.1, .int .i64 c.2.2.2.1, .int .i64 c.2.2.2.2.1, .int .i64 c.2.2.2.2.2])] ?_
    exact AW.weaken (zL [] [] []) (hk_history_isCall_k2 _ h)
 ·refine zo ?_
  refine zS 4 [(1, .bp 1 0), (8, .bool (decide (c.2.2.2.2.2 = 0)))] [(1, .box 55 [.int .i64 c.1, .int .i64 c.2.1, .int .i64 c.2.2.1, .int .i64 c.2.2.2.1, .int .i64 c.2.2.2.2.1, .int .i64 c.2.2.2.2.2])] ?_
  rcases zI h with ⟨hb13, h⟩ | ⟨hb13, h⟩
  ·refine zB [(1, .bp 1 0), (3, .bool (decide (c.2.2.2.1 = 0)))] [(1, .box 55 [.int .i64 c.1, .int .i64 c.2.1, .int .i64 c.2.2.1, .int .i64 c.2.2.2.1, .int .i64 c.2.2.2.2.1, .int .i64 c.2.2.2.2.2])] ?_
   exact AW.weaken (zL [] [] []) (hk_history_isCall_k1 _ h)
  ·refine zB [(1, .bp 1 0), (3, .bool false)] [(1, .box 55 [.int .i64 c.1, .int .i64 c.2.1, .int .i64 c.2.2.1, .int .i64 c.2.2.2.1, .int .i64 c.2.2.2.2.1, .int .i64 c.2.2.2.2.2])] ?_
   exact AW.weaken (zL [] [] []) (hk_history_isCall_k1 _ h)

theorem hc_history_before (a : Int × Int × Int × Int × Int × Int) (b : Int × Int × Int × Int × Int × Int) {r : Bool} (h : history_before a b = some r) : HC Try.prog 67 [] [.agg [.int .i64 a.1, .int .i64 a.2.1, .int .i64 a.2.2.1, .int .i64 a.2.2.2.1, .int .i64 a.2.2.2.2.1, .int .i64 a.2.2.2.2.2], .agg [.int .i64 b.1, .int .i64 b.2.1, .int .i64 b.2.2.1, .int .i64 b.2.2.2.1, .int .i64 b.2.2.2.2.1, .int .i64 b.2.2.2.2.2]] [] (.bool r) := by
 unfold history_before at h
 refine zH Try.func67 [.tmp 4] 15 ?_
 refine zo ?_
 refine zB [(2, .bp 2 0), (3, .bp 3 0)] [(2, .box 55 [.int .i64 a.1, .int .i64 a.2.1, .int .i64 a.2.2.1, .int .i64 a.2.2.2.1, .int .i64 a.2.2.2.2.1, .int .i64 a.2.2.2.2.2]), (3, .box 55 [.int .i64 b.1, .int .i64 b.2.1, .int .i64 b.2.2.1, .int .i64 b.2.2.2.1, .int .i64 b.2.2.2.2.1, .int .i64 b.2.2.2.2.2])] ?_
 refine zo ?_
 refine zS 4 [(2, .bp 2 0), (3, .bp 3 0), (8, .bool (!(decide (a.2.2.2.2.2 = 0))))] [(2, .box 55 [.int .i64 a.1, .int .i64 a.2.1, .int .i64 a.2.2.1, .int .i64 a.2.2.2.1, .int .i64 a.2.2.2.2.1, .int .i64 a.2.2.2.2.2]), (3, .box 55 [.int .i64 b.1, .int .i64 b.2.1, .int .i64 b.2.2.1, .int .i64 b.2.2.2.1, .int .i64 b.2.2.2.2.1, .int .i64 b.2.2.2.2.2])] ?_
 rcases zI h with ⟨hb1, h⟩ | ⟨hb1, h⟩
 ·refine zB [(4, .bool (decide (a.2.2.2.2.2 < b.2.2.2.2.1)))] [] ?_
  refine AW.ret ?_
  obtain rfl := Option.some.inj h
  exact zR [] [] []
 ·refine zS 4 [(8, .bool false), (10, .cv (undef)), (12, .cv (undef))] [] ?_
  refine zB [(4, .bool false)] [] ?_
  refine AW.ret ?_
  obtain rfl := Option.some.inj h
  exact zR [] [] []

theorem hc_history_apart (a : Int × Int × Int × Int × Int × Int) (b : Int × Int × Int × Int × Int × Int) {r : Bool} (h : history_apart a b = some r) : HC Try.prog 71 [] [.agg [.int .i64 a.1, .int .i64 a.2.1, .int .i64 a.2.2.1, .int .i64 a.2.2.2.1, .int .i64 a.2.2.2.2.1, .int .i64 a.2.2.2.2.2], .agg [.int .i64 b.1, .int .i64 b.2.1, .int .i64 b.2.2.1, .int .i64 b.2.2.2.1, .int .i64 b.2.2.2.2.1, .int .i64 b.2.2.2.2.2]] [] (.bool r) := by
 unfold history_apart at h
 refine zH Try.func71 [.tmp 4] 49 ?_
 refine zo ?_
 refine zB [(2, .bp 2 0), (3, .bp 3 0)] [(2, .box 55 [.int .i64 a.1, .int .i64 a.2.1, .int .i64 a.2.2.1, .int .i64 a.2.2.2.1, .int .i64 a.2.2.2.2.1, .int .i64 a.2.2.2.2.2]), (3, .box 55 [.int .i64 b.1, .int .i64 b.2.1, .int .i64 b.2.2.1, .int .i64 b.2.2.2.1, .int .i64 b.2.2.2.2.1, .int .i64 b.2.2.2.2.2])] ?_
 refine AW.seq ?_
 refine zo ?_
 refine zS 6 [(2, .bp 2 0), (3, .bp 3 0), (10, .bool (decide (a.2.2.2.2.1 = b.2.2.2.2.1)))] [(2, .box 55 [.int .i64 a.1, .int .i64 a.2.1, .int .i64 a.2.2.1, .int .i64 a.2.2.2.1, .int .i64 a.2.2.2.2.1, .int .i64 a.2.2.2.2.2]), (3, .box 55 [.int .i64 b.1, .int .i64 b.2.1, .int .i64 b.2.2.1, .int .i64 b.2.2.2.1, .int .i64 b.2.2.2.2.1, .int .i64 b.2.2.2.2.2])] ?_
 rcases zI h with ⟨hb1, h⟩ | ⟨hb1, h⟩
 ·refine zS 4 [(2, .bp 2 0), (3, .bp 3 0), (10, .bool true), (12, .cv (undef)), (14, .cv (undef))] [(2, .box 55 [.int .i64 a.1, .int .i64 a.2.1, .int .i64 a.2.2.1, .int .i64 a.2.2.2.1, .int .i64 a.2.2.2.2.1, .int .i64 a.2.2.2.2.2]), (3, .box 55 [.int .i64 b.1, .int .i64 b.2.1, .int .i64 b.2.2.1, .int .i64 b.2.2.2.1, .int .i64 b.2.2.2.2.1, .int .i64 b.2.2.2.2.2])] ?_
  refine zS 6 [(2, .bp 2 0), (3, .bp 3 0), (17, .bool true), (19, .cv (undef)), (20, .cv (undef))] [(2, .box 55 [.int .i64 a.1, .int .i64 a.2.1, .int .i64 a.2.2.1, .int .i64 a.2.2.2.1, .int .i64 a.2.2.2.2.1, .int .i64 a.2.2.2.2.2]), (3, .box 55 [.int .i64 b.1, .int .i64 b.2.1, .int .i64 b.2.2.1, .int .i64 b.2.2.2.1, .int .i64 b.2.2.2.2.1, .int .i64 b.2.2.2.2.2])] ?_
  refine zB [(2, .bp 2 0), (3, .bp 3 0), (23, .bool true)] [(2, .box 55 [.int .i64 a.1, .int .i64 a.2.1, .int .i64 a.2.2.1, .int .i64 a.2.2.2.1, .int .i64 a.2.2.2.2.1, .int .i64 a.2.2.2.2.2]), (3, .box 55 [.int .i64 b.1, .int .i64 b.2.1, .int .i64 b.2.2.1, .int .i64 b.2.2.2.1, .int .i64 b.2.2.2.2.1, .int .i64 b.2.2.2.2.2])] ?_
  refine AW.cond (b := true) rfl (fun _ => ?_) (fun hb2 => by cases hb2)
  refine zo ?_
  refine zB [(4, .bool false)] [] ?_
  refine zr ?_
  obtain rfl := Option.some.inj h
  exact zR [] [] []
 ·refine zS 7 [(2, .bp 2 0), (3, .bp 3 0), (17, .bool (decide (a.2.2.2.2.1 = b.2.2.2.2.2)))] [(2, .box 55 [.int .i64 a.1, .int .i64 a.2.1, .int .i64 a.2.2.1, .int .i64 a.2.2.2.1, .int .i64 a.2.2.2.2.1, .int .i64 a.2.2.2.2.2]), (3, .box 55 [.int .i64 b.1, .int .i64 b.2.1, .int .i64 b.2.2.1, .int .i64 b.2.2.2.1, .int .i64 b.2.2.2.2.1, .int .i64 b.2.2.2.2.2])] ?_
  rcases zI h with ⟨hb3, h⟩ | ⟨hb3, h⟩
  ·refine zS 4 [(2, .bp 2 0), (3, .bp 3 0), (17, .bool true), (19, .cv (undef)), (21, .cv (undef))] [(2, .box 55 [.int .i64 a.1, .int .i64 a.2.1, .int .i64 a.2.2.1, .int .i64 a.2.2.2.1, .int .i64 a.2.2.2.2.1, .int .i64 a.2.2.2.2.2]), (3, .box 55 [.int .i64 b.1, .int .i64 b.2.1, .int .i64 b.2.2.1, .int .i64 b.2.2.2.1, .int .i64 b.2.2.2.2.1, .int .i64 b.2.2.2.2.2])] ?_
   refine zB [(2, .bp 2 0), (3, .bp 3 0), (23, .bool true)] [(2, .box 55 [.int .i64 a.1, .int .i64 a.2.1, .int .i64 a.2.2.1, .int .i64 a.2.2.2.1, .int .i64 a.2.2.2.2.1, .int .i64 a.2.2.2.2.2]), (3, .box 55 [.int .i64 b.1, .int .i64 b.2.1, .int .i64 b.2.2.1, .int .i64 b.2.2.2.1, .int .i64 b.2.2.2.2.1, .int .i64 b.2.2.2.2.2])] ?_
   refine AW.cond (b := true) rfl (fun _ => ?_) (fun hb4 => by cases hb4)
   refine zo ?_
   refine zB [(4, .bool false)] [] ?_
   refine zr ?_
   obtain rfl := Option.some.inj h
   exact zR [] [] []
  ·refine zB [(2, .bp 2 0), (3, .bp 3 0), (23, .bool (decide (a.2.2.2.2.2 = b.2.2.2.2.1)))] [(2, .box 55 [.int .i64 a.1, .int .i64 a.2.1, .int .i64 a.2.2.1, .int .i64 a.2.2.2.1, .int .i64 a.2.2.2.2.1, .int .i64 a.2.2.2.2.2]), (3, .box 55 [.int .i64 b.1, .int .i64 b.2.1, .int .i64 b.2.2.1, .int .i64 b.2.2.2.1, .int .i64 b.2.2.2.2.1, .int .i64 b.2.2.2.2.2])] ?_
   refine zQ h (fun hb5 h => ?_) (fun hb5 h => ?_)
   ·refine zo ?_
    refine zB [(4, .bool false)] [] ?_
    refine zr ?_
    obtain rfl := Option.some.inj h
    exact zR [] [] []
   ·refine zk ?_
    refine AW.have1 (fun _ : Unit => history_apart_k1 a b = some r) (fun _ => ⟨fr [(2, .bp 2 0), (3, .bp 3 0)], hpGet [(2, .box 55 [.int .i64 a.1, .int .i64 a.2.1, .int .i64 a.2.2.1, .int .i64 a.2.2.2.1, .int .i64 a.2.2.2.2.1, .int .i64 a.2.2.2.2.2]), (3, .box 55 [.int .i64 b.1, .int .i64 b.2.1, .int .i64 b.2.2.1, .int .i64 b.2.2.2.1, .int .i64 b.2.2.2.2.1, .int .i64 b.2.2.2.2.2])], gt⟩) (fun _ h => ?_) (fun hk_history_apart_k1 => ?_)
    ·unfold history_apart_k1 at h
     refine zo ?_
     refine zS 6 [(2, .bp 2 0), (3, .bp 3 0), (39, .bool (!(decide (a.1 = b.1))))] [(2, .box 55 [.int .i64 a.1, .int .i64 a.2.1, .int .i64 a.2.2.1, .int .i64 a.2.2.2.1, .int .i64 a.2.2.2.2.1, .int .i64 a.2.2.2.2.2]), (3, .box 55 [.int .i64 b.1, .int .i64 b.2.1, .int .i64 b.2.2.1, .int .i64 b.2.2.2.1, .int .i64 b.2.2.2.2.1, .int .i64 b.2.2.2.2.2])] ?_
     rcases zI h with ⟨hb6, h⟩ | ⟨hb6, h⟩
     ·refine zS 6 [(2, .bp 2 0), (44, .bool true), (45, .cv (undef))] [(2, .box 55 [.int .i64 a.1, .int .i64 a.2.1, .int .i64 a.2.2.1, .int .i64 a.2.2.2.1, .int .i64 a.2.2.2.2.1, .int .i64 a.2.2.2.2.2])] ?_
      refine zB [(4, .bool true)] [] ?_
      refine AW.ret ?_
      obtain rfl := Option.some.inj h
      exact zR [] [] []
     ·refine zS 2 [(2, .bp 2 0), (3, .bp 3 0), (39, .bool false), (40, .agg [.int .i64 a.1, .int .i64 a.2.1, .int .i64 a.2.2.1, .int .i64 a.2.2.2.1, .int .i64 a.2.2.2.2.1, .int .i64 a.2.2.2.2.2]), (41, .agg [.int .i64 b.1, .int .i64 b.2.1, .int .i64 b.2.2.1, .int .i64 b.2.2.2.1, .int .i64 b.2.2.2.2.1, .int .i64 b.2.2.2.2.2])] [(2, .box 55 [.int .i64 a.1, .int .i64 a.2.1, .int .i64 a.2.2.1, .int .i64 a.2.2.2.1, .int .i64 a.2.2.2.2.1, .int .i64 a.2.2.2.2.2]), (3, .box 55 [.int .i64 b.1, .int .i64 b.2.1, .int .i64 b.2.2.1, .int .i64 b.2.2.2.1, .int .i64 b.2.2.2.2.1, .int .i64 b.2.2.2.2.2])] ?_
      obtain ⟨v0, hv7, h⟩ := Option.bind_eq_some_iff.1 h
      refine zG [] [] (hc_history_before a b hv7) [(2, .bp 2 0), (3, .bp 3 0), (39, .bool false), (42, .bool v0)] [(2, .box 55 [.int .i64 a.1, .int .i64 a.2.1, .int .i64 a.2.2.1, .int .i64 a.2.2.2.1, .int .i64 a.2.2.2.2.1, .int .i64 a.2.2.2.2.2]), (3, .box 55 [.int .i64 b.1, .int .i64 b.2.1, .int .i64 b.2.2.1, .int .i64 b.2.2.2.1, .int .i64 b.2.2.2.2.1, .int .i64 b.2.2.2.2.2])] ?_
      refine zS 2 [(2, .bp 2 0), (3, .bp 3 0), (44, .bool v0)] [(2, .box 55 [.int .i64 a.1, .int .i64 a.2.1, .int .i64 a.2.2.1, .int .i64 a.2.2.2.1, .int .i64 a.2.2.2.2.1, .int .i64 a.2.2.2.2.2]), (3, .box 55 [.int .i64 b.1, .int .i64 b.2.1, .int .i64 b.2.2.1, .int .i64 b.2.2.2.1, .int .i64 b.2.2.2.2.1, .int .i64 b.2.2.2.2.2])] ?_
      rcases zI h with ⟨hb8, h⟩ | ⟨hb8, h⟩
      ·refine zB [(4, .bool true)] [] ?_
       refine AW.ret ?_
       obtain rfl := Option.some.inj h
       exact zR [] [] []
      ·refine zS 2 [(44, .bool false), (45, .agg [.int .i64 b.1, .int .i64 b.2.1, .int .i64 b.2.2.1, .int .i64 b.2.2.2.1, .int .i64 b.2.2.2.2.1, .int .i64 b.2.2.2.2.2]), (46, .agg [.int .i64 a.1, .int .i64 a.2.1, .int .i64 a.2.2.1, .int .i64 a.2.2.2.1, .int .i64 a.2.2.2.2.1, .int .i64 a.2.2.2.2.2])] [] ?_
       obtain ⟨v0_2, hv9, h⟩ := Option.bind_eq_some_iff.1 h
       refine zG [] [] (hc_history_before b a hv9) [(44, .bool false), (47, .bool v0_2)] [] ?_
       refine zB [(4, .bool v0_2)] [] ?_
       refine AW.ret ?_
       obtain rfl := Option.some.inj h
       exact zR [] [] []
    ·refine AW.seq ?_
     refine zo ?_
     refine zS 6 [(2, .bp 2 0), (3, .bp 3 0), (29, .bool (decide (a.2.2.2.2.2 = b.2.2.2.2.2)))] [(2, .box 55 [.int .i64 a.1, .int .i64 a.2.1, .int .i64 a.2.2.1, .int .i64 a.2.2.2.1, .int .i64 a.2.2.2.2.1, .int .i64 a.2.2.2.2.2]), (3, .box 55 [.int .i64 b.1, .int .i64 b.2.1, .int .i64 b.2.2.1, .int .i64 b.2.2.2.1, .int .i64 b.2.2.2.2.1, .int .i64 b.2.2.2.2.2])] ?_
     rcases zI h with ⟨hb10, h⟩ | ⟨hb10, h⟩
     ·refine zB [(2, .bp 2 0), (3, .bp 3 0), (33, .bool (!(decide (a.2.2.2.2.2 = 0))))] [(2, .box 55 [.int .i64 a.1, .int .i64 a.2.1, .int .i64 a.2.2.1, .int .i64 a.2.2.2.1, .int .i64 a.2.2.2.2.1, .int .i64 a.2.2.2.2.2]), (3, .box 55 [.int .i64 b.1, .int .i64 b.2.1, .int .i64 b.2.2.1, .int .i64 b.2.2.2.1, .int .i64 b.2.2.2.2.1, .int .i64 b.2.2.2.2.2])] ?_
      refine zQ h (fun hb11 h => ?_) (fun hb11 h => ?_)
      ·refine zo ?_
       refine zB [(4, .bool false)] [] ?_
       refine zr ?_
       obtain rfl := Option.some.inj h
       exact zR [] [] []
      ·refine zk ?_
       exact AW.weaken (zL [] [] []) (hk_history_apart_k1 () h)
     ·refine zB [(2, .bp 2 0), (3, .bp 3 0), (33, .bool false)] [(2, .box 55 [.int .i64 a.1, .int .i64 a.2.1, .int .i64 a.2.2.1, .int .i64 a.2.2.2.1, .int .i64 a.2.2.2.2.1, .int .i64 a.2.2.2.2.2]), (3, .box 55 [.int .i64 b.1, .int .i64 b.2.1, .int .i64 b.2.2.1, .int .i64 b.2.2.2.1, .int .i64 b.2.2.2.2.1, .int .i64 b.2.2.2.2.2])] ?_
      refine AW.cond (b := false) rfl (fun hb12 => by cases hb12) (fun _ => ?_)
      refine zk ?_
      exact AW.weaken (zL [] [] []) (hk_history_apart_k1 () h)

theorem hc_history_Valid (h0 : ZH) {r : Bool} (h : history_Valid h0 = some r) : HC Try.prog 24 [] [.sl Y1 h0] [] (.bool r) := by
 unfold history_Valid at h
 refine zH Try.func24 [.tmp 2] 34 ?_
 refine zo ?_
 refine zB [(0, .sl Y1 h0)] [] ?_
 refine AW.seq ?_
 refine zo ?_
 refine zB [(0, .sl Y1 h0), (9, .bool (decide (8 < (h0.length : Int))))] [] ?_
 refine zQ h (fun hb1 h => ?_) (fun hb1 h => ?_)
 ·refine zo ?_
  refine zB [(2, .bool false)] [] ?_
  refine zr ?_
  obtain rfl := Option.some.inj h
  exact zR [] [] []
 ·refine zk ?_
  refine AW.have1 (fun _ : Unit => history_Valid_k1 = some r) (fun _ => ⟨fr [], hpGet [], gt⟩) (fun _ h => ?_) (fun hk_history_Valid_k1 => ?_)
  ·unfold history_Valid_k1 at h
   refine zo ?_
   refine zB [(2, .bool true)] [] ?_
   refine AW.ret ?_
   obtain rfl := Option.some.inj h
   exact zR [] [] []
  ·refine AW.seq ?_
   refine zo ?_
   refine zB [(0, .sl Y1 h0), (10, .sl Y1 h0), (11, .int .i64 (h0.length : Int)), (12, .int .i64 0)] [] ?_
   refine AW.block ?_
   obtain ⟨rv6, hw2, ho3⟩ := Option.bind_eq_some_iff.1 h
   refine AW.loopO (history_Valid_b1 h0) (fun st1 => ⟨fr [(0, .sl Y1 h0), (10, .sl Y1 h0), (11, .int .i64 (h0.length : Int)), (12, .int .i64 st1)], hpGet [], gt⟩) 0 hw2 (zL [] [] []) ?_
   intro st1 x5 h hd4
   unfold history_Valid_b1 at h
   refine zo ?_
   refine zB [(0, .sl Y1 h0), (10, .sl Y1 h0), (11, .int .i64 (h0.length : Int)), (12, .int .i64 st1), (13, .bool (decide (st1 < (h0.length : Int))))] [] ?_
   refine AW.seq ?_
   refine zQ h (fun hb7 h => ?_) (fun hb7 h => ?_)
   ·refine zk ?_
    refine AW.have1 (fun _ : Unit => history_Valid_k2 st1 = some x5) (fun _ => ⟨fr [(0, .sl Y1 h0), (10, .sl Y1 h0), (11, .int .i64 (h0.length : Int)), (12, .int .i64 st1)], hpGet [], gt⟩) (fun _ h => ?_) (fun hk_history_Valid_k2 => ?_)
    ·unfold history_Valid_k2 at h
     refine AW.ops ?_
     obtain ⟨c8, h⟩ := ck_some.1 h
     refine zA [(0, .sl Y1 h0), (10, .sl Y1 h0), (11, .int .i64 (h0.length : Int)), (12, .int .i64 (st1 + 1))] [] ?_
     obtain rfl := Option.some.inj h
     exact ⟨_, rfl, zL [] [] []⟩
    ·refine AW.seq ?_
     refine AW.block ?_
     refine zo ?_
     obtain ⟨c9, h⟩ := ck_some.1 h
     obtain ⟨c10, h⟩ := ck_some.1 h
     refine zB [(0, .sl Y1 h0), (3, .int .i64 st1), (4, .bp 4 0), (10, .sl Y1 h0), (11, .int .i64 (h0.length : Int)), (12, .int .i64 st1)] [(4, .box 55 [.int .i64 (h0.getD st1.toNat (0, 0, 0, 0, 0, 0)).1, .int .i64 (h0.getD st1.toNat (0, 0, 0, 0, 0, 0)).2.1, .int .i64 (h0.getD st1.toNat (0, 0, 0, 0, 0, 0)).2.2.1, .int .i64 (h0.getD st1.toNat (0, 0, 0, 0, 0, 0)).2.2.2.1, .int .i64 (h0.getD st1.toNat (0, 0, 0, 0, 0, 0)).2.2.2.2.1, .int .i64 (h0.getD st1.toNat (0, 0, 0, 0, 0, 0)).2.2.2.2.2])] ?_
     refine AW.seq ?_
     refine zo ?_
     refine zS 1 [(0, .sl Y1 h0), (3, .int .i64 st1), (4, .bp 4 0), (10, .sl Y1 h0), (11, .int .i64 (h0.length : Int)), (12, .int .i64 st1), (17, .agg [.int .i64 (h0.getD st1.toNat (0, 0, 0, 0, 0, 0)).1, .int .i64 (h0.getD st1.toNat (0, 0, 0, 0, 0, 0)).2.1, .int .i64 (h0.getD st1.toNat (0, 0, 0, 0, 0, 0)).2.2.1, .int .i64 (h0.getD st1.toNat (0, 0, 0, 0, 0, 0)).2.2.2.1, .int .i64 (h0.getD st1.toNat (0, 0, 0, 0, 0, 0)).2.2.2.2.1, .int .i64 (h0.getD st1.toNat (0, 0, 0, 0, 0, 0)).2.2.2.2.2])] [(4, .box 55 [.int .i64 (h0.getD st1.toNat (0, 0, 0, 0, 0, 0)).1, .int .i64 (h0.getD st1.toNat (0, 0, 0, 0, 0, 0)).2.1, .int .i64 (h0.getD st1.toNat (0, 0, 0, 0, 0, 0)).2.2.1, .int .i64 (h0.getD st1.toNat (0, 0, 0, 0, 0, 0)).2.2.2.1, .int .i64 (h0.getD st1.toNat (0, 0, 0, 0, 0, 0)).2.2.2.2.1, .int .i64 (h0.getD st1.toNat (0, 0, 0, 0, 0, 0)).2.2.2.2.2])] ?_
     obtain ⟨v0, hv11, h⟩ := Option.bind_eq_some_iff.1 h
     refine zC [] [] (hc_history_isCall (h0.getD st1.toNat (0, 0, 0, 0, 0, 0)) hv11) [(0, .sl Y1 h0), (3, .int .i64 st1), (4, .bp 4 0), (10, .sl Y1 h0), (11, .int .i64 (h0.length : Int)), (12, .int .i64 st1), (18, .bool v0)] [(4, .box 55 [.int .i64 (h0.getD st1.toNat (0, 0, 0, 0, 0, 0)).1, .int .i64 (h0.getD st1.toNat (0, 0, 0, 0, 0, 0)).2.1, .int .i64 (h0.getD st1.toNat (0, 0, 0, 0, 0, 0)).2.2.1, .int .i64 (h0.getD st1.toNat (0, 0, 0, 0, 0, 0)).2.2.2.1, .int .i64 (h0.getD st1.toNat (0, 0, 0, 0, 0, 0)).2.2.2.2.1, .int .i64 (h0.getD st1.toNat (0, 0, 0, 0, 0, 0)).2.2.2.2.2])] ?_
     refine zB [(0, .sl Y1 h0), (3, .int .i64 st1), (4, .bp 4 0), (10, .sl Y1 h0), (11, .int .i64 (h0.length : Int)), (12, .int .i64 st1), (19, .bool (!v0))] [(4, .box 55 [.int .i64 (h0.getD st1.toNat (0, 0, 0, 0, 0, 0)).1, .int .i64 (h0.getD st1.toNat (0, 0, 0, 0, 0, 0)).2.1, .int .i64 (h0.getD st1.toNat (0, 0, 0, 0, 0, 0)).2.2.1, .int .i64 (h0.getD st1.toNat (0, 0, 0, 0, 0, 0)).2.2.2.1, .int .i64 (h0.getD st1.toNat (0, 0, 0, 0, 0, 0)).2.2.2.2.1, .int .i64 (h0.getD st1.toNat (0, 0, 0, 0, 0, 0)).2.2.2.2.2])] ?_
     refine zQ h (fun hb12 h => ?_) (fun hb12 h => ?_)
     ·refine zo ?_
      refine zB [(2, .bool false)] [] ?_
      refine zr ?_
      refine ablock_r ?_
      refine athen_r ?_
      obtain rfl := Option.some.inj h
      rw [← hd4 _ rfl] at ho3
      have h := ho3
      try simp only at h
      refine athen_r ?_
      refine ablock_r ?_
      refine athen_r ?_
      obtain rfl := Option.some.inj h
      exact zR [] [] []
     ·refine zk ?_
      refine zo ?_
      obtain ⟨c13, h⟩ := ck_some.1 h
      obtain ⟨c14, h⟩ := ck_some.1 h
      refine zB [(0, .sl Y1 h0), (4, .bp 4 0), (10, .sl Y1 h0), (11, .int .i64 (h0.length : Int)), (12, .int .i64 st1), (22, .sl Y1 (h0.take st1.toNat)), (23, .int .i64 ((h0.take st1.toNat).length : Int)), (24, .int .i64 0)] [(4, .box 55 [.int .i64 (h0.getD st1.toNat (0, 0, 0, 0, 0, 0)).1, .int .i64 (h0.getD st1.toNat (0, 0, 0, 0, 0, 0)).2.1, .int .i64 (h0.getD st1.toNat (0, 0, 0, 0, 0, 0)).2.2.1, .int .i64 (h0.getD st1.toNat (0, 0, 0, 0, 0, 0)).2.2.2.1, .int .i64 (h0.getD st1.toNat (0, 0, 0, 0, 0, 0)).2.2.2.2.1, .int .i64 (h0.getD st1.toNat (0, 0, 0, 0, 0, 0)).2.2.2.2.2])] ?_
      refine AW.block ?_
      obtain ⟨rv19, hw15, ho16⟩ := Option.bind_eq_some_iff.1 h
      refine AW.loopO (history_Valid_b2 h0 st1) (fun st2 => ⟨fr [(0, .sl Y1 h0), (4, .bp 4 0), (10, .sl Y1 h0), (11, .int .i64 (h0.length : Int)), (12, .int .i64 st1), (22, .sl Y1 (h0.take st1.toNat)), (23, .int .i64 ((h0.take st1.toNat).length : Int)), (24, .int .i64 st2)], hpGet [(4, .box 55 [.int .i64 (h0.getD st1.toNat (0, 0, 0, 0, 0, 0)).1, .int .i64 (h0.getD st1.toNat (0, 0, 0, 0, 0, 0)).2.1, .int .i64 (h0.getD st1.toNat (0, 0, 0, 0, 0, 0)).2.2.1, .int .i64 (h0.getD st1.toNat (0, 0, 0, 0, 0, 0)).2.2.2.1, .int .i64 (h0.getD st1.toNat (0, 0, 0, 0, 0, 0)).2.2.2.2.1, .int .i64 (h0.getD st1.toNat (0, 0, 0, 0, 0, 0)).2.2.2.2.2])], gt⟩) 0 hw15 (zL [] [] []) ?_
      intro st2 x18 h hd17
      unfold history_Valid_b2 at h
      refine zo ?_
      refine zB [(0, .sl Y1 h0), (4, .bp 4 0), (10, .sl Y1 h0), (11, .int .i64 (h0.length : Int)), (12, .int .i64 st1), (22, .sl Y1 (h0.take st1.toNat)), (23, .int .i64 ((h0.take st1.toNat).length : Int)), (24, .int .i64 st2), (25, .bool (decide (st2 < ((h0.take st1.toNat).length : Int))))] [(4, .box 55 [.int .i64 (h0.getD st1.toNat (0, 0, 0, 0, 0, 0)).1, .int .i64 (h0.getD st1.toNat (0, 0, 0, 0, 0, 0)).2.1, .int .i64 (h0.getD st1.toNat (0, 0, 0, 0, 0, 0)).2.2.1, .int .i64 (h0.getD st1.toNat (0, 0, 0, 0, 0, 0)).2.2.2.1, .int .i64 (h0.getD st1.toNat (0, 0, 0, 0, 0, 0)).2.2.2.2.1, .int .i64 (h0.getD st1.toNat (0, 0, 0, 0, 0, 0)).2.2.2.2.2])] ?_
      refine AW.seq ?_
      refine zQ h (fun hb20 h => ?_) (fun hb20 h => ?_)
      ·refine zk ?_
       refine AW.seq ?_
       refine AW.block ?_
       refine zo ?_
       obtain ⟨c21, h⟩ := ck_some.1 h
       obtain ⟨c22, h⟩ := ck_some.1 h
       refine zB [(0, .sl Y1 h0), (4, .bp 4 0), (6, .bp 6 0), (10, .sl Y1 h0), (11, .int .i64 (h0.length : Int)), (12, .int .i64 st1), (22, .sl Y1 (h0.take st1.toNat)), (23, .int .i64 ((h0.take st1.toNat).length : Int)), (24, .int .i64 st2)] [(4, .box 55 [.int .i64 (h0.getD st1.toNat (0, 0, 0, 0, 0, 0)).1, .int .i64 (h0.getD st1.toNat (0, 0, 0, 0, 0, 0)).2.1, .int .i64 (h0.getD st1.toNat (0, 0, 0, 0, 0, 0)).2.2.1, .int .i64 (h0.getD st1.toNat (0, 0, 0, 0, 0, 0)).2.2.2.1, .int .i64 (h0.getD st1.toNat (0, 0, 0, 0, 0, 0)).2.2.2.2.1, .int .i64 (h0.getD st1.toNat (0, 0, 0, 0, 0, 0)).2.2.2.2.2]), (6, .box 55 [.int .i64 ((h0.take st1.toNat).getD st2.toNat (0, 0, 0, 0, 0, 0)).1, .int .i64 ((h0.take st1.toNat).getD st2.toNat (0, 0, 0, 0, 0, 0)).2.1, .int .i64 ((h0.take st1.toNat).getD st2.toNat (0, 0, 0, 0, 0, 0)).2.2.1, .int .i64 ((h0.take st1.toNat).getD st2.toNat (0, 0, 0, 0, 0, 0)).2.2.2.1, .int .i64 ((h0.take st1.toNat).getD st2.toNat (0, 0, 0, 0, 0, 0)).2.2.2.2.1, .int .i64 ((h0.take st1.toNat).getD st2.toNat (0, 0, 0, 0, 0, 0)).2.2.2.2.2])] ?_
       refine zo ?_
       refine zS 2 [(0, .sl Y1 h0), (4, .bp 4 0), (10, .sl Y1 h0), (11, .int .i64 (h0.length : Int)), (12, .int .i64 st1), (22, .sl Y1 (h0.take st1.toNat)), (23, .int .i64 ((h0.take st1.toNat).length : Int)), (24, .int .i64 st2), (28, .agg [.int .i64 (h0.getD st1.toNat (0, 0, 0, 0, 0, 0)).1, .int .i64 (h0.getD st1.toNat (0, 0, 0, 0, 0, 0)).2.1, .int .i64 (h0.getD st1.toNat (0, 0, 0, 0, 0, 0)).2.2.1, .int .i64 (h0.getD st1.toNat (0, 0, 0, 0, 0, 0)).2.2.2.1, .int .i64 (h0.getD st1.toNat (0, 0, 0, 0, 0, 0)).2.2.2.2.1, .int .i64 (h0.getD st1.toNat (0, 0, 0, 0, 0, 0)).2.2.2.2.2]), (29, .agg [.int .i64 ((h0.take st1.toNat).getD st2.toNat (0, 0, 0, 0, 0, 0)).1, .int .i64 ((h0.take st1.toNat).getD st2.toNat (0, 0, 0, 0, 0, 0)).2.1, .int .i64 ((h0.take st1.toNat).getD st2.toNat (0, 0, 0, 0, 0, 0)).2.2.1, .int .i64 ((h0.take st1.toNat).getD st2.toNat (0, 0, 0, 0, 0, 0)).2.2.2.1, .int .i64 ((h0.take st1.toNat).getD st2.toNat (0, 0, 0, 0, 0, 0)).2.2.2.2.1, .int .i64 ((h0.take st1.toNat).getD st2.toNat (0, 0, 0, 0, 0, 0)).2.2.2.2.2])] [(4, .box 55 [.int .i64 (h0.getD st1.toNat (0, 0, 0, 0, 0, 0)).1, .int .i64 (h0.getD st1.toNat (0, 0, 0, 0, 0, 0)).2.1, .int .i64 (h0.getD st1.toNat (0, 0, 0, 0, 0, 0)).2.2.1, .int .i64 (h0.getD st1.toNat (0, 0, 0, 0, 0, 0)).2.2.2.1, .int .i64 (h0.getD st1.toNat (0, 0, 0, 0, 0, 0)).2.2.2.2.1, .int .i64 (h0.getD st1.toNat (0, 0, 0, 0, 0, 0)).2.2.2.2.2])] ?_
       obtain ⟨v0_2, hv23, h⟩ := Option.bind_eq_some_iff.1 h
       refine zC [] [] (hc_history_apart (h0.getD st1.toNat (0, 0, 0, 0, 0, 0)) ((h0.take st1.toNat).getD st2.toNat (0, 0, 0, 0, 0, 0)) hv23) [(0, .sl Y1 h0), (4, .bp 4 0), (10, .sl Y1 h0), (11, .int .i64 (h0.length : Int)), (12, .int .i64 st1), (22, .sl Y1 (h0.take st1.toNat)), (23, .int .i64 ((h0.take st1.toNat).length : Int)), (24, .int .i64 st2), (30, .bool v0_2)] [(4, .box 55 [.int .i64 (h0.getD st1.toNat (0, 0, 0, 0, 0, 0)).1, .int .i64 (h0.getD st1.toNat (0, 0, 0, 0, 0, 0)).2.1, .int .i64 (h0.getD st1.toNat (0, 0, 0, 0, 0, 0)).2.2.1, .int .i64 (h0.getD st1.toNat (0, 0, 0, 0, 0, 0)).2.2.2.1, .int .i64 (h0.getD st1.toNat (0, 0, 0, 0, 0, 0)).2.2.2.2.1, .int .i64 (h0.getD st1.toNat (0, 0, 0, 0, 0, 0)).2.2.2.2.2])] ?_
       refine zB [(0, .sl Y1 h0), (4, .bp 4 0), (10, .sl Y1 h0), (11, .int .i64 (h0.length : Int)), (12, .int .i64 st1), (22, .sl Y1 (h0.take st1.toNat)), (23, .int .i64 ((h0.take st1.toNat).length : Int)), (24, .int .i64 st2), (31, .bool (!v0_2))] [(4, .box 55 [.int .i64 (h0.getD st1.toNat (0, 0, 0, 0, 0, 0)).1, .int .i64 (h0.getD st1.toNat (0, 0, 0, 0, 0, 0)).2.1, .int .i64 (h0.getD st1.toNat (0, 0, 0, 0, 0, 0)).2.2.1, .int .i64 (h0.getD st1.toNat (0, 0, 0, 0, 0, 0)).2.2.2.1, .int .i64 (h0.getD st1.toNat (0, 0, 0, 0, 0, 0)).2.2.2.2.1, .int .i64 (h0.getD st1.toNat (0, 0, 0, 0, 0, 0)).2.2.2.2.2])] ?_
       refine zQ h (fun hb24 h => ?_) (fun hb24 h => ?_)
       ·refine zo ?_
        refine zB [(2, .bool false)] [] ?_
        refine AW.ret ?_
        refine ablock_r ?_
        refine athen_r ?_
        obtain rfl := Option.some.inj h
        rw [← hd17 _ rfl] at ho16
        have h := ho16
        try simp only at h
        refine athen_r ?_
        refine ablock_r ?_
        refine ablock_r ?_
        refine athen_r ?_
        obtain rfl := Option.some.inj h
        rw [← hd4 _ rfl] at ho3
        have h := ho3
        try simp only at h
        refine athen_r ?_
        refine ablock_r ?_
        refine athen_r ?_
        obtain rfl := Option.some.inj h
        exact zR [] [] []
       ·refine zm ?_
        refine athen_n ?_
        refine AW.ops ?_
        obtain ⟨c25, h⟩ := ck_some.1 h
        refine zA [(0, .sl Y1 h0), (4, .bp 4 0), (10, .sl Y1 h0), (11, .int .i64 (h0.length : Int)), (12, .int .i64 st1), (22, .sl Y1 (h0.take st1.toNat)), (23, .int .i64 ((h0.take st1.toNat).length : Int)), (24, .int .i64 (st2 + 1))] [(4, .box 55 [.int .i64 (h0.getD st1.toNat (0, 0, 0, 0, 0, 0)).1, .int .i64 (h0.getD st1.toNat (0, 0, 0, 0, 0, 0)).2.1, .int .i64 (h0.getD st1.toNat (0, 0, 0, 0, 0, 0)).2.2.1, .int .i64 (h0.getD st1.toNat (0, 0, 0, 0, 0, 0)).2.2.2.1, .int .i64 (h0.getD st1.toNat (0, 0, 0, 0, 0, 0)).2.2.2.2.1, .int .i64 (h0.getD st1.toNat (0, 0, 0, 0, 0, 0)).2.2.2.2.2])] ?_
        obtain rfl := Option.some.inj h
        exact ⟨_, rfl, zL [] [] []⟩
      ·refine AW.exit ?_
       refine athen_e ?_
       obtain rfl := Option.some.inj h
       rw [← hd17 _ rfl] at ho16
       have h := ho16
       try simp only at h
       refine athen_e ?_
       refine ablock_s ?_
       refine ablock_n ?_
       refine athen_n ?_
       exact AW.weaken (zL [] [] []) (hk_history_Valid_k2 () h)
   ·refine AW.exit ?_
    refine athen_e ?_
    obtain rfl := Option.some.inj h
    rw [← hd4 _ rfl] at ho3
    have h := ho3
    try simp only at h
    refine athen_e ?_
    refine ablock_s ?_
    refine athen_n ?_
    exact AW.weaken (zL [] [] []) (hk_history_Valid_k1 () h)

theorem hc_history_fits (specs : ZS) (h0 : ZH) {r : Bool} (h : history_fits specs h0 = some r) : HC Try.prog 61 [] [.sl Y0 specs, .sl Y1 h0] [] (.bool r) := by
 unfold history_fits at h
 refine zH Try.func61 [.tmp 4] 30 ?_
 refine zo ?_
 refine zB [(0, .sl Y0 specs), (1, .sl Y1 h0)] [] ?_
 refine AW.have1 (fun _ : Unit => history_fits_k1 = some r) (fun _ => ⟨fr [], hpGet [], gt⟩) (fun _ h => ?_) (fun hk_history_fits_k1 => ?_)
 ·unfold history_fits_k1 at h
  refine zo ?_
  refine zB [(4, .bool true)] [] ?_
  refine AW.ret ?_
  obtain rfl := Option.some.inj h
  exact zR [] [] []
 ·refine AW.seq ?_
  refine zo ?_
  refine zB [(0, .sl Y0 specs), (7, .sl Y1 h0), (8, .int .i64 (h0.length : Int)), (9, .int .i64 0)] [] ?_
  refine AW.block ?_
  obtain ⟨rv5, hw1, ho2⟩ := Option.bind_eq_some_iff.1 h
  refine AW.loopO (history_fits_b1 specs h0) (fun st1 => ⟨fr [(0, .sl Y0 specs), (7, .sl Y1 h0), (8, .int .i64 (h0.length : Int)), (9, .int .i64 st1)], hpGet [], gt⟩) 0 hw1 (zL [] [] []) ?_
  intro st1 x4 h hd3
  unfold history_fits_b1 at h
  refine zo ?_
  refine zB [(0, .sl Y0 specs), (7, .sl Y1 h0), (8, .int .i64 (h0.length : Int)), (9, .int .i64 st1), (10, .bool (decide (st1 < (h0.length : Int))))] [] ?_
  refine AW.seq ?_
  refine zQ h (fun hb6 h => ?_) (fun hb6 h => ?_)
  ·refine zk ?_
   refine AW.seq ?_
   refine AW.block ?_
   refine zo ?_
   obtain ⟨c7, h⟩ := ck_some.1 h
   obtain ⟨c8, h⟩ := ck_some.1 h
   refine zB [(0, .sl Y0 specs), (6, .bp 6 0), (7, .sl Y1 h0), (8, .int .i64 (h0.length : Int)), (9, .int .i64 st1)] [(6, .box 55 [.int .i64 (h0.getD st1.toNat (0, 0, 0, 0, 0, 0)).1, .int .i64 (h0.getD st1.toNat (0, 0, 0, 0, 0, 0)).2.1, .int .i64 (h0.getD st1.toNat (0, 0, 0, 0, 0, 0)).2.2.1, .int .i64 (h0.getD st1.toNat (0, 0, 0, 0, 0, 0)).2.2.2.1, .int .i64 (h0.getD st1.toNat (0, 0, 0, 0, 0, 0)).2.2.2.2.1, .int .i64 (h0.getD st1.toNat (0, 0, 0, 0, 0, 0)).2.2.2.2.2])] ?_
   refine AW.seq ?_
   refine AW.draw tab_ok mixed_ok [] [] (by decide) (by kernel_rfl) ?_
   refine adops_cut 6 (fun K' hK9 => ?_)
   try dsimp only [List.drop_succ_cons, List.drop_zero, List.take_succ_cons, List.take_zero]
   simp only [go_sem, hb6]
   repeat with_reducible refine zN ?_
   refine hK9 _ ?_
   rcases zI h with ⟨hb10, h⟩ | ⟨hb10, h⟩
   ·simp only [hb10]
    refine adops_cut 4 (fun K' hK11 => ?_)
    try dsimp only [List.drop_succ_cons, List.drop_zero, List.take_succ_cons, List.take_zero]
    simp only [go_sem, hb6, hb10]
    repeat with_reducible refine zN ?_
    refine hK11 _ ?_
    refine adops_cut 4 (fun K' hK12 => ?_)
    try dsimp only [List.drop_succ_cons, List.drop_zero, List.take_succ_cons, List.take_zero]
    simp only [go_sem, hb6, hb10]
    repeat with_reducible refine zN ?_
    refine hK12 _ ?_
    refine adops_cut 2 (fun K' hK13 => ?_)
    try dsimp only [List.drop_succ_cons, List.drop_zero, List.take_succ_cons, List.take_zero]
    simp only [go_sem, hb6, hb10]
    repeat with_reducible refine zN ?_
    refine hK13 _ ?_
    refine adops_nil ?_
    refine athen_n ?_
    refine zV [(0, .sl Y0 specs), (7, .sl Y1 h0), (8, .int .i64 (h0.length : Int)), (9, .int .i64 st1), (28, .bool true)] [] gt ?_
    refine AW.cond (b := true) rfl (fun _ => ?_) (fun hb14 => by cases hb14)
    refine zo ?_
    refine zB [(4, .bool false)] [] ?_
    refine AW.ret ?_
    refine ablock_r ?_
    refine athen_r ?_
    obtain rfl := Option.some.inj h
    rw [← hd3 _ rfl] at ho2
    have h := ho2
    try simp only at h
    refine athen_r ?_
    refine ablock_r ?_
    refine athen_r ?_
    obtain rfl := Option.some.inj h
    exact zR [] [] []
   ·simp only [hb10]
    obtain ⟨c16, h⟩ := ck_some.1 h
    obtain ⟨c17, h⟩ := ck_some.1 h
    refine adops_cut 6 (fun K' hK15 => ?_)
    try dsimp only [List.drop_succ_cons, List.drop_zero, List.take_succ_cons, List.take_zero]
    simp only [go_sem, hb6, hb10]
    repeat with_reducible refine zN ?_
    refine hK15 _ ?_
    refine adops_cut 4 (fun K' hK18 => ?_)
    try dsimp only [List.drop_succ_cons, List.drop_zero, List.take_succ_cons, List.take_zero]
    simp only [go_sem, hb6, hb10]
    repeat with_reducible refine zN ?_
    refine hK18 _ ?_
    refine adops_nil ?_
    refine athen_n ?_
    refine zV [(0, .sl Y0 specs), (7, .sl Y1 h0), (8, .int .i64 (h0.length : Int)), (9, .int .i64 st1), (28, .bool (decide ((specs.getD (h0.getD st1.toNat (0, 0, 0, 0, 0, 0)).2.1.toNat (0, 0, [], [])).2.1 ≤ (h0.getD st1.toNat (0, 0, 0, 0, 0, 0)).2.2.1)))] [] gt ?_
    refine zQ h (fun hb19 h => ?_) (fun hb19 h => ?_)
    ·refine zo ?_
     refine zB [(4, .bool false)] [] ?_
     refine AW.ret ?_
     refine ablock_r ?_
     refine athen_r ?_
     obtain rfl := Option.some.inj h
     rw [← hd3 _ rfl] at ho2
     have h := ho2
     try simp only at h
     refine athen_r ?_
     refine ablock_r ?_
     refine athen_r ?_
     obtain rfl := Option.some.inj h
     exact zR [] [] []
    ·refine zm ?_
     refine athen_n ?_
     refine AW.ops ?_
     obtain ⟨c20, h⟩ := ck_some.1 h
     refine zA [(0, .sl Y0 specs), (7, .sl Y1 h0), (8, .int .i64 (h0.length : Int)), (9, .int .i64 (st1 + 1))] [] ?_
     obtain rfl := Option.some.inj h
     exact ⟨_, rfl, zL [] [] []⟩
  ·refine AW.exit ?_
   refine athen_e ?_
   obtain rfl := Option.some.inj h
   rw [← hd3 _ rfl] at ho2
   have h := ho2
   try simp only at h
   refine athen_e ?_
   refine ablock_s ?_
   refine athen_n ?_
   exact AW.weaken (zL [] [] []) (hk_history_fits_k1 () h)

theorem hc_history_checkFor (specs : ZS) (h0 : ZH) {r : Int} (h : history_checkFor specs h0 = some r) : HC Try.prog 73 [] [.sl Y0 specs, .sl Y1 h0] [] (.int .i64 r) := by
 unfold history_checkFor at h
 refine zH Try.func73 [.tmp 4] 20 ?_
 refine zo ?_
 refine zB [(0, .sl Y0 specs), (1, .sl Y1 h0)] [] ?_
 refine AW.seq ?_
 refine zo ?_
 refine zS 1 [(0, .sl Y0 specs), (1, .sl Y1 h0), (6, .sl Y0 specs)] [] ?_
 obtain ⟨v0, hv1, h⟩ := Option.bind_eq_some_iff.1 h
 refine zC [] [] (hc_history_checkSpecs specs hv1) [(0, .sl Y0 specs), (1, .sl Y1 h0), (7, .int .i64 v0)] [] ?_
 refine zB [(0, .sl Y0 specs), (1, .sl Y1 h0), (5, .int .i64 v0)] [] ?_
 refine zo ?_
 refine zB [(0, .sl Y0 specs), (1, .sl Y1 h0), (5, .int .i64 v0), (9, .bool (!(decide (v0 = 0))))] [] ?_
 refine zQ h (fun hb2 h => ?_) (fun hb2 h => ?_)
 ·refine zo ?_
  refine zB [(4, .int .i64 v0)] [] ?_
  refine zr ?_
  obtain rfl := Option.some.inj h
  exact zR [] [] []
 ·refine zk ?_
  refine AW.seq ?_
  refine zo ?_
  refine zS 1 [(0, .sl Y0 specs), (1, .sl Y1 h0), (11, .sl Y1 h0)] [] ?_
  obtain ⟨v0_2, hv3, h⟩ := Option.bind_eq_some_iff.1 h
  refine zC [] [] (hc_history_Valid h0 hv3) [(0, .sl Y0 specs), (1, .sl Y1 h0), (12, .bool v0_2)] [] ?_
  refine zS 2 [(0, .sl Y0 specs), (1, .sl Y1 h0), (14, .bool (!v0_2))] [] ?_
  rcases zI h with ⟨hb4, h⟩ | ⟨hb4, h⟩
  ·refine zS 4 [(14, .bool true), (18, .cv (undef))] [] ?_
   refine zB [(19, .bool true)] [] ?_
   refine AW.cond (b := true) rfl (fun _ => ?_) (fun hb5 => by cases hb5)
   refine zo ?_
   refine zB [(4, .int .i64 20)] [] ?_
   refine zr ?_
   obtain rfl := Option.some.inj h
   exact zR [] [] []
  ·refine zS 2 [(14, .bool false), (15, .sl Y0 specs), (16, .sl Y1 h0)] [] ?_
   obtain ⟨v0_3, hv6, h⟩ := Option.bind_eq_some_iff.1 h
   refine zG [] [] (hc_history_fits specs h0 hv6) [(14, .bool false), (17, .bool v0_3)] [] ?_
   refine zB [(19, .bool (!v0_3))] [] ?_
   refine zQ h (fun hb7 h => ?_) (fun hb7 h => ?_)
   ·refine zo ?_
    refine zB [(4, .int .i64 20)] [] ?_
    refine zr ?_
    obtain rfl := Option.some.inj h
    exact zR [] [] []
   ·refine zk ?_
    refine zo ?_
    refine zB [(4, .int .i64 0)] [] ?_
    refine AW.ret ?_
    obtain rfl := Option.some.inj h
    exact zR [] [] []

theorem hc_history_newSearch (specs : ZS) (h0 : ZH) {r : Unit} (h : history_newSearch specs h0 = some r) : HC Try.prog 86 [] [.sl Y0 specs, .sl Y1 h0, .fn (.func 77) [] []] [(2000, .map true false Y2 (.int .i64) [])] (.agg [.sl Y0 specs, .sl Y1 h0, .fn (.func 77) [] [], .own 2000]) := by
 unfold history_newSearch at h
 refine zH Try.func86 [.cell 6 76] 12 ?_
 refine zo ?_
 refine zB [(0, .sl Y0 specs), (1, .sl Y1 h0), (2, .fn (.func 77) [] []), (6, .bp 6 0)] [(6, .box 76 [.cv (.slice none 0 0), .cv (.slice none 0 0), .cv (.nilFunc), .cv (.map none)])] ?_
 refine zo ?_
 refine zS 3 [(6, .bp 6 0), (7, .sl Y0 specs), (8, .sl Y1 h0), (9, .fn (.func 77) [] [])] [(6, .box 76 [.cv (.slice none 0 0), .cv (.slice none 0 0), .cv (.nilFunc), .cv (.map none)])] ?_
 refine AO.makeMap (ak := true) (ae := false) (kt := Y2) (vt := (.int .i64)) (by decide) (by decide) rfl rfl ?_
 refine zT [(6, .bp 6 0), (7, .sl Y0 specs), (8, .sl Y1 h0), (9, .fn (.func 77) [] []), (10, .own 10)] [(6, .box 76 [.cv (.slice none 0 0), .cv (.slice none 0 0), .cv (.nilFunc), .cv (.map none)]), (10, .map true false Y2 (.int .i64) [])] gt ?_
 refine zB [(6, .bp 6 0)] [(6, .box 76 [.sl Y0 specs, .sl Y1 h0, .fn (.func 77) [] [], .own 10]), (10, .map true false Y2 (.int .i64) [])] ?_
 refine AW.ret ?_
 obtain rfl := Option.some.inj h
 exact zR [] [] [(2000, 10)]

theorem hc_history_Order_1 (a0 : ZS) (a1 : ZH) {r : Unit} (h : history_Order_1 a0 a1 = some r) : HC Try.prog 85 [(1000, .box 22 [.sl Y0 a0]), (1001, .box 23 [.sl Y1 a1])] [.bp 1000 0, .bp 1001 0] [(1000, .box 22 [.sl Y0 a0]), (1001, .box 23 [.sl Y1 a1]), (2000, .map true false Y2 (.int .i64) [])] (.agg [.sl Y0 a0, .sl Y1 a1, .fn (.func 77) [] [], .own 2000]) := by
 unfold history_Order_1 at h
 refine zH Try.func85 [.cell 2 76] 6 ?_
 refine zo ?_
 refine zB [(0, .bp 1000 0), (1, .bp 1001 0), (2, .bp 2 0)] [(2, .box 76 [.cv (.slice none 0 0), .cv (.slice none 0 0), .cv (.nilFunc), .cv (.map none)]), (1000, .box 22 [.sl Y0 a0]), (1001, .box 23 [.sl Y1 a1])] ?_
 refine zo ?_
 refine zS 2 [(2, .bp 2 0), (3, .sl Y0 a0), (4, .sl Y1 a1)] [(2, .box 76 [.cv (.slice none 0 0), .cv (.slice none 0 0), .cv (.nilFunc), .cv (.map none)]), (1000, .box 22 [.sl Y0 a0]), (1001, .box 23 [.sl Y1 a1])] ?_
 obtain ⟨v0, hv1, h⟩ := Option.bind_eq_some_iff.1 h
 refine zC [] [] (hc_history_newSearch a0 a1 hv1) [(2, .bp 2 0), (5, .agg [.sl Y0 a0, .sl Y1 a1, .fn (.func 77) [] [], .own 15000])] [(2, .box 76 [.cv (.slice none 0 0), .cv (.slice none 0 0), .cv (.nilFunc), .cv (.map none)]), (1000, .box 22 [.sl Y0 a0]), (1001, .box 23 [.sl Y1 a1]), (15000, .map true false Y2 (.int .i64) [])] ?_
 refine zB [(2, .bp 2 0)] [(2, .box 76 [.sl Y0 a0, .sl Y1 a1, .fn (.func 77) [] [], .own 15000]), (1000, .box 22 [.sl Y0 a0]), (1001, .box 23 [.sl Y1 a1]), (15000, .map true false Y2 (.int .i64) [])] ?_
 refine AW.ret ?_
 obtain rfl := Option.some.inj h
 exact zR [] [] [(2000, 15000)]

theorem hc_history_told (c0 : ZS) (c1 : ZH) {r : Unit} (h : history_told c0 c1 = some r) : HC Try.prog 84 [(1000, .box 22 [.sl Y0 c0]), (1001, .box 23 [.sl Y1 c1])] [.int .i64 0, .fn (.func 85) [] [.bp 1000 0, .bp 1001 0]] [(1000, .box 22 [.sl Y0 c0]), (1001, .box 23 [.sl Y1 c1]), (2000, .map true false Y2 (.int .i64) [])] (.tup [.agg [.sl Y0 c0, .sl Y1 c1, .fn (.func 77) [] [], .own 2000], .int .i64 0]) := by
 unfold history_told at h
 refine zH Try.func84 [.cell 4 76, .tmp 5] 13 ?_
 refine zo ?_
 refine zB [(0, .int .i64 0), (1, .fn (.func 85) [] [.bp 1000 0, .bp 1001 0]), (4, .bp 4 0)] [(4, .box 76 [.cv (.slice none 0 0), .cv (.slice none 0 0), .cv (.nilFunc), .cv (.map none)]), (1000, .box 22 [.sl Y0 c0]), (1001, .box 23 [.sl Y1 c1])] ?_
 refine AW.seq ?_
 refine zo ?_
 refine zB [(0, .int .i64 0), (1, .fn (.func 85) [] [.bp 1000 0, .bp 1001 0]), (4, .bp 4 0), (8, .bool false)] [(4, .box 76 [.cv (.slice none 0 0), .cv (.slice none 0 0), .cv (.nilFunc), .cv (.map none)]), (1000, .box 22 [.sl Y0 c0]), (1001, .box 23 [.sl Y1 c1])] ?_
 refine AW.cond (b := false) rfl (fun hb1 => by cases hb1) (fun _ => ?_)
 refine zk ?_
 refine zo ?_
 refine zS 1 [(4, .bp 4 0), (11, .fn (.func 85) [] [.bp 1000 0, .bp 1001 0])] [(4, .box 76 [.cv (.slice none 0 0), .cv (.slice none 0 0), .cv (.nilFunc), .cv (.map none)]), (1000, .box 22 [.sl Y0 c0]), (1001, .box 23 [.sl Y1 c1])] ?_
 obtain ⟨v0, hv2, h⟩ := Option.bind_eq_some_iff.1 h
 refine zC [] [(1000, 1000), (1001, 1001)] (hc_history_Order_1 c0 c1 hv2) [(4, .bp 4 0), (12, .agg [.sl Y0 c0, .sl Y1 c1, .fn (.func 77) [] [], .own 22000])] [(4, .box 76 [.cv (.slice none 0 0), .cv (.slice none 0 0), .cv (.nilFunc), .cv (.map none)]), (1000, .box 22 [.sl Y0 c0]), (1001, .box 23 [.sl Y1 c1]), (22000, .map true false Y2 (.int .i64) [])] ?_
 refine zB [(4, .bp 4 0), (5, .int .i64 0)] [(4, .box 76 [.sl Y0 c0, .sl Y1 c1, .fn (.func 77) [] [], .own 22000]), (1000, .box 22 [.sl Y0 c0]), (1001, .box 23 [.sl Y1 c1]), (22000, .map true false Y2 (.int .i64) [])] ?_
 refine AW.ret ?_
 obtain rfl := Option.some.inj h
 exact zR [] [] [(2000, 22000)]

theorem hc_history_told_2 (err : Int) (c0 : ZS) (c1 : ZH) (hnz_err : decide (err = 0) = false) {r : Unit} (h : history_told_2 err c0 c1 = some r) : HC Try.prog 84 [(1000, .box 22 [.sl Y0 c0]), (1001, .box 23 [.sl Y1 c1])] [.int .i64 err, .fn (.func 85) [] [.bp 1000 0, .bp 1001 0]] [(1000, .box 22 [.sl Y0 c0]), (1001, .box 23 [.sl Y1 c1])] (.tup [.agg [.cv (.slice none 0 0), .cv (.slice none 0 0), .cv (.nilFunc), .cv (.map none)], .int .i64 err]) := by
 unfold history_told_2 at h
 refine zH Try.func84 [.cell 4 76, .tmp 5] 13 ?_
 refine zo ?_
 refine zB [(0, .int .i64 err), (1, .fn (.func 85) [] [.bp 1000 0, .bp 1001 0]), (4, .bp 4 0)] [(4, .box 76 [.cv (.slice none 0 0), .cv (.slice none 0 0), .cv (.nilFunc), .cv (.map none)]), (1000, .box 22 [.sl Y0 c0]), (1001, .box 23 [.sl Y1 c1])] ?_
 refine AW.seq ?_
 refine zo ?_
 refine zB [(0, .int .i64 err), (1, .fn (.func 85) [] [.bp 1000 0, .bp 1001 0]), (4, .bp 4 0), (8, .bool true)] [(4, .box 76 [.cv (.slice none 0 0), .cv (.slice none 0 0), .cv (.nilFunc), .cv (.map none)]), (1000, .box 22 [.sl Y0 c0]), (1001, .box 23 [.sl Y1 c1])] ?_
 refine AW.cond (b := true) rfl (fun _ => ?_) (fun hb1 => by cases hb1)
 refine zo ?_
 refine zB [(0, .int .i64 err), (4, .bp 4 0), (6, .bp 6 0)] [(4, .box 76 [.cv (.slice none 0 0), .cv (.slice none 0 0), .cv (.nilFunc), .cv (.map none)]), (6, .box 76 [.cv (.slice none 0 0), .cv (.slice none 0 0), .cv (.nilFunc), .cv (.map none)]), (1000, .box 22 [.sl Y0 c0]), (1001, .box 23 [.sl Y1 c1])] ?_
 refine zo ?_
 refine zB [(4, .bp 4 0), (5, .int .i64 err)] [(4, .box 76 [.cv (.slice none 0 0), .cv (.slice none 0 0), .cv (.nilFunc), .cv (.map none)]), (1000, .box 22 [.sl Y0 c0]), (1001, .box 23 [.sl Y1 c1])] ?_
 refine zr ?_
 obtain rfl := Option.some.inj h
 exact zR [] [] []

theorem hc_history_place_has (p : (Int × Int) × Int) (call : Int) {r : Unit} (h : history_place_has p call = some r) : HC Try.prog 126 [] [.agg [.int .i64 p.1.1, .int .i64 p.1.2, .int .u64 p.2], .int .i64 call] [] (.bool (!(decide ((iand .u64 p.2 (ishl .u64 1 call)) = 0)))) := by
 unfold history_place_has at h
 refine zH Try.func126 [.tmp 4] 11 ?_
 refine zo ?_
 refine zB [(1, .int .i64 call), (2, .bp 2 0)] [(2, .box 95 [.int .i64 p.1.1, .int .i64 p.1.2, .int .u64 p.2])] ?_
 refine AW.seq ?_
 refine AW.draw tab_ok mixed_ok [] [] (by decide) (by kernel_rfl) ?_
 obtain ⟨c2, h⟩ := ck_some.1 h
 refine adops_cut 6 (fun K' hK1 => ?_)
 try dsimp only [List.drop_succ_cons, List.drop_zero, List.take_succ_cons, List.take_zero]
 simp only [go_sem]
 repeat with_reducible refine zN ?_
 refine hK1 _ ?_
 refine adops_cut 1 (fun K' hK3 => ?_)
 try dsimp only [List.drop_succ_cons, List.drop_zero, List.take_succ_cons, List.take_zero]
 simp only [go_sem]
 repeat with_reducible refine zN ?_
 refine hK3 _ ?_
 refine adops_nil ?_
 refine athen_n ?_
 refine zV [(4, .bool (!(decide ((iand .u64 p.2 (ishl .u64 1 call)) = 0))))] [] gt ?_
 refine AW.ret ?_
 obtain rfl := Option.some.inj h
 exact zR [] [] []

theorem hc_history_search_full (s : ZS) (s_2 : ZH) (at0 : (Int × Int) × Int) {r : Bool} (h : history_search_full s s_2 at0 = some r) : HC Try.prog 118 [] [.agg [.sl Y0 s, .sl Y1 s_2, .fn (.func 77) [] [], .one], .agg [.int .i64 at0.1.1, .int .i64 at0.1.2, .int .u64 at0.2]] [] (.bool r) := by
 unfold history_search_full at h
 refine zH Try.func118 [.tmp 4] 25 ?_
 refine zo ?_
 refine zB [(2, .bp 2 0), (3, .bp 3 0)] [(2, .box 76 [.sl Y0 s, .sl Y1 s_2, .fn (.func 77) [] [], .one]), (3, .box 95 [.int .i64 at0.1.1, .int .i64 at0.1.2, .int .u64 at0.2])] ?_
 refine AW.have1 (fun _ : Unit => history_search_full_k1 = some r) (fun _ => ⟨fr [], hpGet [], gt⟩) (fun _ h => ?_) (fun hk_history_search_full_k1 => ?_)
 ·unfold history_search_full_k1 at h
  refine zo ?_
  refine zB [(4, .bool true)] [] ?_
  refine AW.ret ?_
  obtain rfl := Option.some.inj h
  exact zR [] [] []
 ·refine AW.seq ?_
  refine zo ?_
  refine zB [(3, .bp 3 0), (8, .sl Y1 s_2), (9, .int .i64 (s_2.length : Int)), (10, .int .i64 0)] [(3, .box 95 [.int .i64 at0.1.1, .int .i64 at0.1.2, .int .u64 at0.2])] ?_
  refine AW.block ?_
  obtain ⟨rv5, hw1, ho2⟩ := Option.bind_eq_some_iff.1 h
  refine AW.loopO (history_search_full_b1 s_2 at0) (fun st1 => ⟨fr [(3, .bp 3 0), (8, .sl Y1 s_2), (9, .int .i64 (s_2.length : Int)), (10, .int .i64 st1)], hpGet [(3, .box 95 [.int .i64 at0.1.1, .int .i64 at0.1.2, .int .u64 at0.2])], gt⟩) 0 hw1 (zL [] [] []) ?_
  intro st1 x4 h hd3
  unfold history_search_full_b1 at h
  refine zo ?_
  refine zB [(3, .bp 3 0), (8, .sl Y1 s_2), (9, .int .i64 (s_2.length : Int)), (10, .int .i64 st1), (11, .bool (decide (st1 < (s_2.length : Int))))] [(3, .box 95 [.int .i64 at0.1.1, .int .i64 at0.1.2, .int .u64 at0.2])] ?_
  refine AW.seq ?_
  refine zQ h (fun hb6 h => ?_) (fun hb6 h => ?_)
  ·refine zk ?_
   refine AW.seq ?_
   refine AW.block ?_
   refine zo ?_
   obtain ⟨c7, h⟩ := ck_some.1 h
   obtain ⟨c8, h⟩ := ck_some.1 h
   refine zB [(3, .bp 3 0), (5, .int .i64 st1), (6, .bp 6 0), (8, .sl Y1 s_2), (9, .int .i64 (s_2.length : Int)), (10, .int .i64 st1)] [(3, .box 95 [.int .i64 at0.1.1, .int .i64 at0.1.2, .int .u64 at0.2]), (6, .box 55 [.int .i64 (s_2.getD st1.toNat (0, 0, 0, 0, 0, 0)).1, .int .i64 (s_2.getD st1.toNat (0, 0, 0, 0, 0, 0)).2.1, .int .i64 (s_2.getD st1.toNat (0, 0, 0, 0, 0, 0)).2.2.1, .int .i64 (s_2.getD st1.toNat (0, 0, 0, 0, 0, 0)).2.2.2.1, .int .i64 (s_2.getD st1.toNat (0, 0, 0, 0, 0, 0)).2.2.2.2.1, .int .i64 (s_2.getD st1.toNat (0, 0, 0, 0, 0, 0)).2.2.2.2.2])] ?_
   refine zo ?_
   refine zS 4 [(3, .bp 3 0), (5, .int .i64 st1), (8, .sl Y1 s_2), (9, .int .i64 (s_2.length : Int)), (10, .int .i64 st1), (18, .bool (!(decide ((s_2.getD st1.toNat (0, 0, 0, 0, 0, 0)).2.2.2.2.2 = 0))))] [(3, .box 95 [.int .i64 at0.1.1, .int .i64 at0.1.2, .int .u64 at0.2])] ?_
   rcases zI h with ⟨hb9, h⟩ | ⟨hb9, h⟩
   ·refine zS 2 [(3, .bp 3 0), (8, .sl Y1 s_2), (9, .int .i64 (s_2.length : Int)), (10, .int .i64 st1), (18, .bool true), (19, .agg [.int .i64 at0.1.1, .int .i64 at0.1.2, .int .u64 at0.2]), (20, .int .i64 st1)] [(3, .box 95 [.int .i64 at0.1.1, .int .i64 at0.1.2, .int .u64 at0.2])] ?_
    obtain ⟨v0, hv10, h⟩ := Option.bind_eq_some_iff.1 h
    refine zG [] [] (hc_history_place_has at0 st1 hv10) [(3, .bp 3 0), (8, .sl Y1 s_2), (9, .int .i64 (s_2.length : Int)), (10, .int .i64 st1), (18, .bool true), (21, .bool (!(decide ((iand .u64 at0.2 (ishl .u64 1 st1)) = 0))))] [(3, .box 95 [.int .i64 at0.1.1, .int .i64 at0.1.2, .int .u64 at0.2])] ?_
    refine zB [(3, .bp 3 0), (8, .sl Y1 s_2), (9, .int .i64 (s_2.length : Int)), (10, .int .i64 st1), (23, .bool (!(!(decide ((iand .u64 at0.2 (ishl .u64 1 st1)) = 0)))))] [(3, .box 95 [.int .i64 at0.1.1, .int .i64 at0.1.2, .int .u64 at0.2])] ?_
    refine zQ h (fun hb11 h => ?_) (fun hb11 h => ?_)
    ·refine zo ?_
     refine zB [(4, .bool false)] [] ?_
     refine AW.ret ?_
     refine ablock_r ?_
     refine athen_r ?_
     obtain rfl := Option.some.inj h
     rw [← hd3 _ rfl] at ho2
     have h := ho2
     try simp only at h
     refine athen_r ?_
     refine ablock_r ?_
     refine athen_r ?_
     obtain rfl := Option.some.inj h
     exact zR [] [] []
    ·refine zm ?_
     refine athen_n ?_
     refine AW.ops ?_
     obtain ⟨c12, h⟩ := ck_some.1 h
     refine zA [(3, .bp 3 0), (8, .sl Y1 s_2), (9, .int .i64 (s_2.length : Int)), (10, .int .i64 (st1 + 1))] [(3, .box 95 [.int .i64 at0.1.1, .int .i64 at0.1.2, .int .u64 at0.2])] ?_
     obtain rfl := Option.some.inj h
     exact ⟨_, rfl, zL [] [] []⟩
   ·refine zS 4 [(3, .bp 3 0), (8, .sl Y1 s_2), (9, .int .i64 (s_2.length : Int)), (10, .int .i64 st1), (18, .bool false), (22, .cv (undef))] [(3, .box 95 [.int .i64 at0.1.1, .int .i64 at0.1.2, .int .u64 at0.2])] ?_
    refine zB [(3, .bp 3 0), (8, .sl Y1 s_2), (9, .int .i64 (s_2.length : Int)), (10, .int .i64 st1), (23, .bool false)] [(3, .box 95 [.int .i64 at0.1.1, .int .i64 at0.1.2, .int .u64 at0.2])] ?_
    refine AW.cond (b := false) rfl (fun hb13 => by cases hb13) (fun _ => ?_)
    refine zm ?_
    refine athen_n ?_
    refine AW.ops ?_
    obtain ⟨c14, h⟩ := ck_some.1 h
    refine zA [(3, .bp 3 0), (8, .sl Y1 s_2), (9, .int .i64 (s_2.length : Int)), (10, .int .i64 (st1 + 1))] [(3, .box 95 [.int .i64 at0.1.1, .int .i64 at0.1.2, .int .u64 at0.2])] ?_
    obtain rfl := Option.some.inj h
    exact ⟨_, rfl, zL [] [] []⟩
  ·refine AW.exit ?_
   refine athen_e ?_
   obtain rfl := Option.some.inj h
   rw [← hd3 _ rfl] at ho2
   have h := ho2
   try simp only at h
   refine athen_e ?_
   refine ablock_s ?_
   refine athen_n ?_
   exact AW.weaken (zL [] [] []) (hk_history_search_full_k1 () h)

end Go.Proofs.Ytlfpagicagmjgaa
