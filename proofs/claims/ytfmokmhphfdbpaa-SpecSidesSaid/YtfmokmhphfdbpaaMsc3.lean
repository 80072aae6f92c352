/-
  Made by wip/tool/dc.py out of the print of the program: contracts.
-/
import Derived.Test.YtfmokmhphfdbpaaQp
import Derived.Test.YtfmokmhphfdbpaaShs
import Derived.Test.YtfmokmhphfdbpaaMsc1
import Derived.Test.YtfmokmhphfdbpaaMsc2
namespace Go.Proofs.Ytfmokmhphfdbpaa
open Go.RowKit

set_option linter.unusedSimpArgs false
set_option linter.unusedVariables false
set_option linter.constructorNameAsVariable false

set_option maxRecDepth 100000
set_option maxHeartbeats 2000000

theorem hc_linealref01_IsWord (s : Int × Int × (List (List Int)) × (List (List Int))) (word : List Int) {r : Bool} (h : linealref01_IsWord s word = some r) : HC Try.prog 54 [] [.agg [.int .i64 s.1, .int .i64 s.2.1, .sl (.sl (.int .i64)) s.2.2.1, .sl (.sl (.int .i64)) s.2.2.2], .sl (.int .i64) word] [] (.bool r) := by
  unfold linealref01_IsWord at h
  refine zH Try.func54 [.tmp 4] 21 ?_
  refine zo ?_
  refine zB [(1, .sl (.int .i64) word), (2, .bp 2 0)] [(2, .box 24 [.int .i64 s.1, .int .i64 s.2.1, .sl (.sl (.int .i64)) s.2.2.1, .sl (.sl (.int .i64)) s.2.2.2])] ?_
  refine AW.have1 (fun _ : Unit => linealref01_IsWord_k1 word = some r) (fun _ => ⟨fr [(1, .sl (.int .i64) word)], hpGet [], gt⟩) (fun _ h => ?_) (fun hk_linealref01_IsWord_k1 => ?_)
  · unfold linealref01_IsWord_k1 at h
    refine zo ?_
    refine zB [(4, .bool (decide ((word.length : Int) ≤ 20)))] [] ?_
    refine AW.ret ?_
    obtain rfl := Option.some.inj h
    exact zR [] [] []
  · refine AW.seq ?_
    refine zo ?_
    refine zB [(1, .sl (.int .i64) word), (2, .bp 2 0), (7, .sl (.int .i64) word), (8, .int .i64 (word.length : Int)), (9, .int .i64 0)] [(2, .box 24 [.int .i64 s.1, .int .i64 s.2.1, .sl (.sl (.int .i64)) s.2.2.1, .sl (.sl (.int .i64)) s.2.2.2])] ?_
    refine AW.block ?_
    obtain ⟨rv5, hw1, ho2⟩ := Option.bind_eq_some_iff.1 h
    refine AW.loopO (linealref01_IsWord_b1 s word) (fun st1 => ⟨fr [(1, .sl (.int .i64) word), (2, .bp 2 0), (7, .sl (.int .i64) word), (8, .int .i64 (word.length : Int)), (9, .int .i64 st1)], hpGet [(2, .box 24 [.int .i64 s.1, .int .i64 s.2.1, .sl (.sl (.int .i64)) s.2.2.1, .sl (.sl (.int .i64)) s.2.2.2])], gt⟩) 0 hw1 (zL [] [] []) ?_
    intro st1 x4 h hd3
    unfold linealref01_IsWord_b1 at h
    refine zo ?_
    refine zB [(1, .sl (.int .i64) word), (2, .bp 2 0), (7, .sl (.int .i64) word), (8, .int .i64 (word.length : Int)), (9, .int .i64 st1), (10, .bool (decide (st1 < (word.length : Int))))] [(2, .box 24 [.int .i64 s.1, .int .i64 s.2.1, .sl (.sl (.int .i64)) s.2.2.1, .sl (.sl (.int .i64)) s.2.2.2])] ?_
    refine AW.seq ?_
    refine zQ h (fun hb6 h => ?_) (fun hb6 h => ?_)
    ·
      refine zk ?_
      refine AW.seq ?_
      refine AW.block ?_
      refine zo ?_
      obtain ⟨c7, h⟩ := ck_some.1 h
      obtain ⟨c8, h⟩ := ck_some.1 h
      refine zB [(1, .sl (.int .i64) word), (2, .bp 2 0), (6, .int .i64 (word.getD st1.toNat 0)), (7, .sl (.int .i64) word), (8, .int .i64 (word.length : Int)), (9, .int .i64 st1)] [(2, .box 24 [.int .i64 s.1, .int .i64 s.2.1, .sl (.sl (.int .i64)) s.2.2.1, .sl (.sl (.int .i64)) s.2.2.2])] ?_
      refine zo ?_
      refine zS 2 [(1, .sl (.int .i64) word), (2, .bp 2 0), (7, .sl (.int .i64) word), (8, .int .i64 (word.length : Int)), (9, .int .i64 st1), (13, .agg [.int .i64 s.1, .int .i64 s.2.1, .sl (.sl (.int .i64)) s.2.2.1, .sl (.sl (.int .i64)) s.2.2.2]), (14, .int .i64 (word.getD st1.toNat 0))] [(2, .box 24 [.int .i64 s.1, .int .i64 s.2.1, .sl (.sl (.int .i64)) s.2.2.1, .sl (.sl (.int .i64)) s.2.2.2])] ?_
      obtain ⟨v0, hv9, h⟩ := Option.bind_eq_some_iff.1 h
      refine zC [] [] (hc_linealref01_IsOp s (word.getD st1.toNat 0) hv9) [(1, .sl (.int .i64) word), (2, .bp 2 0), (7, .sl (.int .i64) word), (8, .int .i64 (word.length : Int)), (9, .int .i64 st1), (15, .bool v0)] [(2, .box 24 [.int .i64 s.1, .int .i64 s.2.1, .sl (.sl (.int .i64)) s.2.2.1, .sl (.sl (.int .i64)) s.2.2.2])] ?_
      refine zB [(1, .sl (.int .i64) word), (2, .bp 2 0), (7, .sl (.int .i64) word), (8, .int .i64 (word.length : Int)), (9, .int .i64 st1), (16, .bool (!v0))] [(2, .box 24 [.int .i64 s.1, .int .i64 s.2.1, .sl (.sl (.int .i64)) s.2.2.1, .sl (.sl (.int .i64)) s.2.2.2])] ?_
      refine zQ h (fun hb10 h => ?_) (fun hb10 h => ?_)
      ·
        refine zo ?_
        refine zB [(4, .bool false)] [] ?_
        refine AW.ret ?_
        refine ablock_r ?_
        refine athen_r ?_
        obtain rfl := Option.some.inj h
        rw [← hd3 _ rfl] at ho2
        have h := ho2
        try simp only at h
        refine athen_r ?_
        refine ablock_r ?_
        refine athen_r ?_
        obtain rfl := Option.some.inj h
        exact zR [] [] []
      ·
        refine zm ?_
        refine athen_n ?_
        refine AW.ops ?_
        obtain ⟨c11, h⟩ := ck_some.1 h
        refine zA [(1, .sl (.int .i64) word), (2, .bp 2 0), (7, .sl (.int .i64) word), (8, .int .i64 (word.length : Int)), (9, .int .i64 (st1 + 1))] [(2, .box 24 [.int .i64 s.1, .int .i64 s.2.1, .sl (.sl (.int .i64)) s.2.2.1, .sl (.sl (.int .i64)) s.2.2.2])] ?_
        obtain rfl := Option.some.inj h
        exact ⟨_, rfl, zL [] [] []⟩
    ·
      refine AW.exit ?_
      refine athen_e ?_
      obtain rfl := Option.some.inj h
      rw [← hd3 _ rfl] at ho2
      have h := ho2
      try simp only at h
      refine athen_e ?_
      refine ablock_s ?_
      refine athen_n ?_
      exact AW.weaken (zL [] [] []) (hk_linealref01_IsWord_k1 () h)

theorem hc_spec_machine_isCall (m : Int × Int × (List (List Int)) × (List (List Int))) (n : Int) {r : Bool} (h : spec_machine_isCall m n = some r) : HC Try.prog 90 [] [.agg [.int .i64 m.1, .int .i64 m.2.1, .sl (.sl (.int .i64)) m.2.2.1, .sl (.sl (.int .i64)) m.2.2.2], .int .i64 n] [] (.bool r) := by
  unfold spec_machine_isCall at h
  refine zH Try.func90 [.tmp 4] 13 ?_
  refine zo ?_
  refine zB [(1, .int .i64 n), (2, .bp 2 0)] [(2, .box 60 [.int .i64 m.1, .int .i64 m.2.1, .sl (.sl (.int .i64)) m.2.2.1, .sl (.sl (.int .i64)) m.2.2.2])] ?_
  refine zo ?_
  refine zS 3 [(1, .int .i64 n), (2, .bp 2 0), (7, .bool (decide (0 ≤ n)))] [(2, .box 60 [.int .i64 m.1, .int .i64 m.2.1, .sl (.sl (.int .i64)) m.2.2.1, .sl (.sl (.int .i64)) m.2.2.2])] ?_
  rcases zI h with ⟨hb1, h⟩ | ⟨hb1, h⟩
  ·
    refine zT [(1, .int .i64 n), (2, .bp 2 0), (7, .bool true)] [(2, .box 60 [.int .i64 m.1, .int .i64 m.2.1, .sl (.sl (.int .i64)) m.2.2.1, .sl (.sl (.int .i64)) m.2.2.2])] gt ?_
    refine zB [(4, .bool (decide (n < m.2.1)))] [] ?_
    refine AW.ret ?_
    obtain rfl := Option.some.inj h
    exact zR [] [] []
  ·
    refine zT [(1, .int .i64 n), (2, .bp 2 0), (7, .bool false)] [(2, .box 60 [.int .i64 m.1, .int .i64 m.2.1, .sl (.sl (.int .i64)) m.2.2.1, .sl (.sl (.int .i64)) m.2.2.2])] gt ?_
    refine zS 4 [(7, .bool false), (11, .cv (undef))] [] ?_
    refine zB [(4, .bool false)] [] ?_
    refine AW.ret ?_
    obtain rfl := Option.some.inj h
    exact zR [] [] []

theorem hc_spec_all_3 (is0 : Int × Int × (List (List Int)) × (List (List Int))) (numbers : List Int) {r : Bool} (h : spec_all_3 is0 numbers = some r) : HC Try.prog 94 [] [.fn (.func 90) [.agg [.int .i64 is0.1, .int .i64 is0.2.1, .sl (.sl (.int .i64)) is0.2.2.1, .sl (.sl (.int .i64)) is0.2.2.2]] [], .sl (.int .i64) numbers] [] (.bool r) := by
  unfold spec_all_3 at h
  refine zH Try.func94 [.tmp 4] 18 ?_
  refine zo ?_
  refine zB [(0, .fn (.func 90) [.agg [.int .i64 is0.1, .int .i64 is0.2.1, .sl (.sl (.int .i64)) is0.2.2.1, .sl (.sl (.int .i64)) is0.2.2.2]] []), (1, .sl (.int .i64) numbers)] [] ?_
  refine AW.have1 (fun _ : Unit => spec_all_3_k1 = some r) (fun _ => ⟨fr [], hpGet [], gt⟩) (fun _ h => ?_) (fun hk_spec_all_3_k1 => ?_)
  · unfold spec_all_3_k1 at h
    refine zo ?_
    refine zB [(4, .bool true)] [] ?_
    refine AW.ret ?_
    obtain rfl := Option.some.inj h
    exact zR [] [] []
  · refine AW.seq ?_
    refine zo ?_
    refine zB [(0, .fn (.func 90) [.agg [.int .i64 is0.1, .int .i64 is0.2.1, .sl (.sl (.int .i64)) is0.2.2.1, .sl (.sl (.int .i64)) is0.2.2.2]] []), (7, .sl (.int .i64) numbers), (8, .int .i64 (numbers.length : Int)), (9, .int .i64 0)] [] ?_
    refine AW.block ?_
    obtain ⟨rv5, hw1, ho2⟩ := Option.bind_eq_some_iff.1 h
    refine AW.loopO (spec_all_3_b1 is0 numbers) (fun st1 => ⟨fr [(0, .fn (.func 90) [.agg [.int .i64 is0.1, .int .i64 is0.2.1, .sl (.sl (.int .i64)) is0.2.2.1, .sl (.sl (.int .i64)) is0.2.2.2]] []), (7, .sl (.int .i64) numbers), (8, .int .i64 (numbers.length : Int)), (9, .int .i64 st1)], hpGet [], gt⟩) 0 hw1 (zL [] [] []) ?_
    intro st1 x4 h hd3
    unfold spec_all_3_b1 at h
    refine zo ?_
    refine zB [(0, .fn (.func 90) [.agg [.int .i64 is0.1, .int .i64 is0.2.1, .sl (.sl (.int .i64)) is0.2.2.1, .sl (.sl (.int .i64)) is0.2.2.2]] []), (7, .sl (.int .i64) numbers), (8, .int .i64 (numbers.length : Int)), (9, .int .i64 st1), (10, .bool (decide (st1 < (numbers.length : Int))))] [] ?_
    refine AW.seq ?_
    refine zQ h (fun hb6 h => ?_) (fun hb6 h => ?_)
    ·
      refine zk ?_
      refine AW.seq ?_
      refine AW.block ?_
      refine zo ?_
      obtain ⟨c7, h⟩ := ck_some.1 h
      obtain ⟨c8, h⟩ := ck_some.1 h
      refine zB [(0, .fn (.func 90) [.agg [.int .i64 is0.1, .int .i64 is0.2.1, .sl (.sl (.int .i64)) is0.2.2.1, .sl (.sl (.int .i64)) is0.2.2.2]] []), (6, .int .i64 (numbers.getD st1.toNat 0)), (7, .sl (.int .i64) numbers), (8, .int .i64 (numbers.length : Int)), (9, .int .i64 st1)] [] ?_
      refine zo ?_
      refine zS 2 [(0, .fn (.func 90) [.agg [.int .i64 is0.1, .int .i64 is0.2.1, .sl (.sl (.int .i64)) is0.2.2.1, .sl (.sl (.int .i64)) is0.2.2.2]] []), (7, .sl (.int .i64) numbers), (8, .int .i64 (numbers.length : Int)), (9, .int .i64 st1), (13, .fn (.func 90) [.agg [.int .i64 is0.1, .int .i64 is0.2.1, .sl (.sl (.int .i64)) is0.2.2.1, .sl (.sl (.int .i64)) is0.2.2.2]] []), (14, .int .i64 (numbers.getD st1.toNat 0))] [] ?_
      obtain ⟨v0, hv9, h⟩ := Option.bind_eq_some_iff.1 h
      refine zC [] [] (hc_spec_machine_isCall is0 (numbers.getD st1.toNat 0) hv9) [(0, .fn (.func 90) [.agg [.int .i64 is0.1, .int .i64 is0.2.1, .sl (.sl (.int .i64)) is0.2.2.1, .sl (.sl (.int .i64)) is0.2.2.2]] []), (7, .sl (.int .i64) numbers), (8, .int .i64 (numbers.length : Int)), (9, .int .i64 st1), (15, .bool v0)] [] ?_
      refine zB [(0, .fn (.func 90) [.agg [.int .i64 is0.1, .int .i64 is0.2.1, .sl (.sl (.int .i64)) is0.2.2.1, .sl (.sl (.int .i64)) is0.2.2.2]] []), (7, .sl (.int .i64) numbers), (8, .int .i64 (numbers.length : Int)), (9, .int .i64 st1), (16, .bool (!v0))] [] ?_
      refine zQ h (fun hb10 h => ?_) (fun hb10 h => ?_)
      ·
        refine zo ?_
        refine zB [(4, .bool false)] [] ?_
        refine AW.ret ?_
        refine ablock_r ?_
        refine athen_r ?_
        obtain rfl := Option.some.inj h
        rw [← hd3 _ rfl] at ho2
        have h := ho2
        try simp only at h
        refine athen_r ?_
        refine ablock_r ?_
        refine athen_r ?_
        obtain rfl := Option.some.inj h
        exact zR [] [] []
      ·
        refine zm ?_
        refine athen_n ?_
        refine AW.ops ?_
        obtain ⟨c11, h⟩ := ck_some.1 h
        refine zA [(0, .fn (.func 90) [.agg [.int .i64 is0.1, .int .i64 is0.2.1, .sl (.sl (.int .i64)) is0.2.2.1, .sl (.sl (.int .i64)) is0.2.2.2]] []), (7, .sl (.int .i64) numbers), (8, .int .i64 (numbers.length : Int)), (9, .int .i64 (st1 + 1))] [] ?_
        obtain rfl := Option.some.inj h
        exact ⟨_, rfl, zL [] [] []⟩
    ·
      refine AW.exit ?_
      refine athen_e ?_
      obtain rfl := Option.some.inj h
      rw [← hd3 _ rfl] at ho2
      have h := ho2
      try simp only at h
      refine athen_e ?_
      refine ablock_s ?_
      refine athen_n ?_
      exact AW.weaken (zL [] [] []) (hk_spec_all_3_k1 () h)

theorem hc_spec_machine_isWord (m : Int × Int × (List (List Int)) × (List (List Int))) (word : List Int) {r : Bool} (h : spec_machine_isWord m word = some r) : HC Try.prog 57 [] [.agg [.int .i64 m.1, .int .i64 m.2.1, .sl (.sl (.int .i64)) m.2.2.1, .sl (.sl (.int .i64)) m.2.2.2], .sl (.int .i64) word] [] (.bool r) := by
  unfold spec_machine_isWord at h
  refine zH Try.func57 [.tmp 4] 14 ?_
  refine zo ?_
  refine zB [(1, .sl (.int .i64) word), (2, .bp 2 0)] [(2, .box 60 [.int .i64 m.1, .int .i64 m.2.1, .sl (.sl (.int .i64)) m.2.2.1, .sl (.sl (.int .i64)) m.2.2.2])] ?_
  refine zo ?_
  refine zS 4 [(1, .sl (.int .i64) word), (2, .bp 2 0), (8, .bool (decide ((word.length : Int) ≤ 20)))] [(2, .box 60 [.int .i64 m.1, .int .i64 m.2.1, .sl (.sl (.int .i64)) m.2.2.1, .sl (.sl (.int .i64)) m.2.2.2])] ?_
  rcases zI h with ⟨hb1, h⟩ | ⟨hb1, h⟩
  ·
    refine zT [(1, .sl (.int .i64) word), (2, .bp 2 0), (8, .bool true)] [(2, .box 60 [.int .i64 m.1, .int .i64 m.2.1, .sl (.sl (.int .i64)) m.2.2.1, .sl (.sl (.int .i64)) m.2.2.2])] gt ?_
    refine zS 3 [(8, .bool true), (10, .fn (.func 90) [.agg [.int .i64 m.1, .int .i64 m.2.1, .sl (.sl (.int .i64)) m.2.2.1, .sl (.sl (.int .i64)) m.2.2.2]] []), (11, .sl (.int .i64) word)] [] ?_
    obtain ⟨v0, hv2, h⟩ := Option.bind_eq_some_iff.1 h
    refine zG [] [] (hc_spec_all_3 m word hv2) [(8, .bool true), (12, .bool v0)] [] ?_
    refine zB [(4, .bool v0)] [] ?_
    refine AW.ret ?_
    obtain rfl := Option.some.inj h
    exact zR [] [] []
  ·
    refine zT [(1, .sl (.int .i64) word), (2, .bp 2 0), (8, .bool false)] [(2, .box 60 [.int .i64 m.1, .int .i64 m.2.1, .sl (.sl (.int .i64)) m.2.2.1, .sl (.sl (.int .i64)) m.2.2.2])] gt ?_
    refine zS 4 [(8, .bool false), (12, .cv (undef))] [] ?_
    refine zB [(4, .bool false)] [] ?_
    refine AW.ret ?_
    obtain rfl := Option.some.inj h
    exact zR [] [] []

theorem hc_spec_machine_run (m : Int × Int × (List (List Int)) × (List (List Int))) (from0 : Int) (word : List Int) {r : (List Int) × Int} (h : spec_machine_run m from0 word = some r) : HC Try.prog 58 [] [.agg [.int .i64 m.1, .int .i64 m.2.1, .sl (.sl (.int .i64)) m.2.2.1, .sl (.sl (.int .i64)) m.2.2.2], .int .i64 from0, .sl (.int .i64) word] [(2000, .arr 3 (.int .i64) r.1)] (.tup [.own 2000, .int .i64 r.2]) := by
  unfold spec_machine_run at h
  refine zH Try.func58 [.tmp 6, .tmp 7] 39 ?_
  refine zo ?_
  refine zB [(1, .int .i64 from0), (2, .sl (.int .i64) word), (3, .bp 3 0), (6, .cv (.slice none 0 0))] [(3, .box 60 [.int .i64 m.1, .int .i64 m.2.1, .sl (.sl (.int .i64)) m.2.2.1, .sl (.sl (.int .i64)) m.2.2.2])] ?_
  refine zo ?_
  refine zB [(2, .sl (.int .i64) word), (3, .bp 3 0), (6, .cv (.slice none 0 0)), (7, .int .i64 from0)] [(3, .box 60 [.int .i64 m.1, .int .i64 m.2.1, .sl (.sl (.int .i64)) m.2.2.1, .sl (.sl (.int .i64)) m.2.2.2])] ?_
  refine AW.have1 (fun b1 : (List Int) × Int => spec_machine_run_k1 b1 = some r) (fun b1 => ⟨fr [(6, .own 27), (7, .int .i64 b1.2)], hpGet [(27, .arr 3 (.int .i64) b1.1)], gt⟩) (fun b1 h => ?_) (fun hk_spec_machine_run_k1 => ?_)
  · unfold spec_machine_run_k1 at h
    refine zo ?_
    refine zB [(6, .own 27), (7, .int .i64 b1.2)] [(27, .arr 3 (.int .i64) b1.1)] ?_
    refine AW.ret ?_
    obtain rfl := Option.some.inj h
    exact zR [] [] [(2000, 27)]
  · refine AW.seq ?_
    refine zo ?_
    refine zB [(3, .bp 3 0), (6, .cv (.slice none 0 0)), (7, .int .i64 from0), (11, .sl (.int .i64) word), (12, .int .i64 (word.length : Int)), (13, .int .i64 0)] [(3, .box 60 [.int .i64 m.1, .int .i64 m.2.1, .sl (.sl (.int .i64)) m.2.2.1, .sl (.sl (.int .i64)) m.2.2.2])] ?_
    refine AW.block ?_
    obtain ⟨rv5, hw1, ho2⟩ := Option.bind_eq_some_iff.1 h
    refine AW.loopO (spec_machine_run_b1 m word) (fun st1 => ⟨fr [(3, .bp 3 0), (6, .own 27), (7, .int .i64 st1.2.1), (11, .sl (.int .i64) word), (12, .int .i64 (word.length : Int)), (13, .int .i64 st1.2.2)], hpGet [(3, .box 60 [.int .i64 m.1, .int .i64 m.2.1, .sl (.sl (.int .i64)) m.2.2.1, .sl (.sl (.int .i64)) m.2.2.2]), (27, .arr 3 (.int .i64) st1.1)], gt⟩) ([], from0, 0) hw1 (zL [] [27] []) ?_
    intro st1 x4 h hd3
    unfold spec_machine_run_b1 at h
    refine zo ?_
    refine zB [(3, .bp 3 0), (6, .own 27), (7, .int .i64 st1.2.1), (11, .sl (.int .i64) word), (12, .int .i64 (word.length : Int)), (13, .int .i64 st1.2.2), (14, .bool (decide (st1.2.2 < (word.length : Int))))] [(3, .box 60 [.int .i64 m.1, .int .i64 m.2.1, .sl (.sl (.int .i64)) m.2.2.1, .sl (.sl (.int .i64)) m.2.2.2]), (27, .arr 3 (.int .i64) st1.1)] ?_
    refine AW.seq ?_
    refine zQ h (fun hb6 h => ?_) (fun hb6 h => ?_)
    ·
      refine zk ?_
      refine AW.seq ?_
      refine AW.block ?_
      refine zo ?_
      obtain ⟨c7, h⟩ := ck_some.1 h
      obtain ⟨c8, h⟩ := ck_some.1 h
      refine zB [(3, .bp 3 0), (6, .own 27), (7, .int .i64 st1.2.1), (9, .int .i64 (word.getD st1.2.2.toNat 0)), (11, .sl (.int .i64) word), (12, .int .i64 (word.length : Int)), (13, .int .i64 st1.2.2)] [(3, .box 60 [.int .i64 m.1, .int .i64 m.2.1, .sl (.sl (.int .i64)) m.2.2.1, .sl (.sl (.int .i64)) m.2.2.2]), (27, .arr 3 (.int .i64) st1.1)] ?_
      refine zo ?_
      obtain ⟨c9, h⟩ := ck_some.1 h
      obtain ⟨c10, h⟩ := ck_some.1 h
      obtain ⟨c11, h⟩ := ck_some.1 h
      obtain ⟨c12, h⟩ := ck_some.1 h
      obtain ⟨c13, h⟩ := ck_some.1 h
      refine zB [(3, .bp 3 0), (6, .own 27), (7, .int .i64 st1.2.1), (9, .int .i64 (word.getD st1.2.2.toNat 0)), (11, .sl (.int .i64) word), (12, .int .i64 (word.length : Int)), (13, .int .i64 st1.2.2)] [(3, .box 60 [.int .i64 m.1, .int .i64 m.2.1, .sl (.sl (.int .i64)) m.2.2.1, .sl (.sl (.int .i64)) m.2.2.2]), (27, .arr 3 (.int .i64) (st1.1 ++ [((m.2.2.2.getD st1.2.1.toNat []).getD (word.getD st1.2.2.toNat 0).toNat 0)]))] ?_
      refine AW.ops ?_
      obtain ⟨c14, h⟩ := ck_some.1 h
      obtain ⟨c15, h⟩ := ck_some.1 h
      obtain ⟨c16, h⟩ := ck_some.1 h
      obtain ⟨c17, h⟩ := ck_some.1 h
      refine zA [(3, .bp 3 0), (6, .own 27), (7, .int .i64 ((m.2.2.1.getD st1.2.1.toNat []).getD (word.getD st1.2.2.toNat 0).toNat 0)), (11, .sl (.int .i64) word), (12, .int .i64 (word.length : Int)), (13, .int .i64 st1.2.2)] [(3, .box 60 [.int .i64 m.1, .int .i64 m.2.1, .sl (.sl (.int .i64)) m.2.2.1, .sl (.sl (.int .i64)) m.2.2.2]), (27, .arr 3 (.int .i64) (st1.1 ++ [((m.2.2.2.getD st1.2.1.toNat []).getD (word.getD st1.2.2.toNat 0).toNat 0)]))] ?_
      refine ablock_n ?_
      refine athen_n ?_
      refine AW.ops ?_
      obtain ⟨c18, h⟩ := ck_some.1 h
      refine zA [(3, .bp 3 0), (6, .own 27), (7, .int .i64 ((m.2.2.1.getD st1.2.1.toNat []).getD (word.getD st1.2.2.toNat 0).toNat 0)), (11, .sl (.int .i64) word), (12, .int .i64 (word.length : Int)), (13, .int .i64 (st1.2.2 + 1))] [(3, .box 60 [.int .i64 m.1, .int .i64 m.2.1, .sl (.sl (.int .i64)) m.2.2.1, .sl (.sl (.int .i64)) m.2.2.2]), (27, .arr 3 (.int .i64) (st1.1 ++ [((m.2.2.2.getD st1.2.1.toNat []).getD (word.getD st1.2.2.toNat 0).toNat 0)]))] ?_
      obtain rfl := Option.some.inj h
      exact ⟨_, rfl, zL [] [] []⟩
    ·
      refine AW.exit ?_
      refine athen_e ?_
      obtain rfl := Option.some.inj h
      rw [← hd3 _ rfl] at ho2
      have h := ho2
      refine athen_e ?_
      refine ablock_s ?_
      refine athen_n ?_
      exact AW.weaken (zL [] [] []) (hk_spec_machine_run_k1 _ h)

theorem hc_spec_Run (s : Int × Int × (List (List Int)) × (List (List Int))) (from0 : Int) (word : List Int) {r : (List Int) × Int × Int} (h : spec_Run s from0 word = some r) : HC Try.prog 18 [] [.agg [.int .i64 s.1, .int .i64 s.2.1, .sl (.sl (.int .i64)) s.2.2.1, .sl (.sl (.int .i64)) s.2.2.2], .int .i64 from0, .sl (.int .i64) word] [(2000, .arr 3 (.int .i64) r.1)] (.tup [.own 2000, .int .i64 r.2.1, .int .i64 r.2.2]) := by
  unfold spec_Run at h
  refine zH Try.func18 [.tmp 6, .tmp 7, .tmp 8] 33 ?_
  refine zo ?_
  refine zB [(1, .int .i64 from0), (2, .sl (.int .i64) word), (3, .bp 3 0)] [(3, .box 24 [.int .i64 s.1, .int .i64 s.2.1, .sl (.sl (.int .i64)) s.2.2.1, .sl (.sl (.int .i64)) s.2.2.2])] ?_
  refine zo ?_
  refine zS 3 [(1, .int .i64 from0), (2, .sl (.int .i64) word), (11, .agg [.int .i64 s.1, .int .i64 s.2.1, .sl (.sl (.int .i64)) s.2.2.1, .sl (.sl (.int .i64)) s.2.2.2]), (13, .own 13)] [(13, .arr 3 (.int .i64) [from0])] ?_
  obtain ⟨v0, hv1, h⟩ := Option.bind_eq_some_iff.1 h
  refine zC [13] [] (hc_spec_checked s [from0] hv1) [(1, .int .i64 from0), (2, .sl (.int .i64) word), (14, .tup [.agg [.int .i64 v0.1, .int .i64 v0.2.1, .sl (.sl (.int .i64)) v0.2.2.1, .sl (.sl (.int .i64)) v0.2.2.2.1], .int .i64 v0.2.2.2.2])] [] ?_
  refine zB [(1, .int .i64 from0), (2, .sl (.int .i64) word), (8, .int .i64 v0.2.2.2.2), (9, .bp 9 0)] [(9, .box 60 [.int .i64 v0.1, .int .i64 v0.2.1, .sl (.sl (.int .i64)) v0.2.2.1, .sl (.sl (.int .i64)) v0.2.2.2.1])] ?_
  refine AW.seq ?_
  refine zo ?_
  refine zB [(1, .int .i64 from0), (2, .sl (.int .i64) word), (8, .int .i64 v0.2.2.2.2), (9, .bp 9 0), (18, .bool (!(decide (v0.2.2.2.2 = 0))))] [(9, .box 60 [.int .i64 v0.1, .int .i64 v0.2.1, .sl (.sl (.int .i64)) v0.2.2.1, .sl (.sl (.int .i64)) v0.2.2.2.1])] ?_
  refine zQ h (fun hb2 h => ?_) (fun hb2 h => ?_)
  ·
    refine zo ?_
    refine zB [(6, .cv (.slice none 0 0)), (7, .int .i64 0), (8, .int .i64 v0.2.2.2.2)] [] ?_
    refine zr ?_
    obtain rfl := Option.some.inj h
    exact zR [] [2000] []
  ·
    refine zk ?_
    refine AW.seq ?_
    refine zo ?_
    refine zS 2 [(1, .int .i64 from0), (2, .sl (.int .i64) word), (9, .bp 9 0), (20, .agg [.int .i64 v0.1, .int .i64 v0.2.1, .sl (.sl (.int .i64)) v0.2.2.1, .sl (.sl (.int .i64)) v0.2.2.2.1]), (21, .sl (.int .i64) word)] [(9, .box 60 [.int .i64 v0.1, .int .i64 v0.2.1, .sl (.sl (.int .i64)) v0.2.2.1, .sl (.sl (.int .i64)) v0.2.2.2.1])] ?_
    obtain ⟨v0_2, hv3, h⟩ := Option.bind_eq_some_iff.1 h
    refine zC [] [] (hc_spec_machine_isWord (v0.1, v0.2.1, v0.2.2.1, v0.2.2.2.1) word hv3) [(1, .int .i64 from0), (2, .sl (.int .i64) word), (9, .bp 9 0), (22, .bool v0_2)] [(9, .box 60 [.int .i64 v0.1, .int .i64 v0.2.1, .sl (.sl (.int .i64)) v0.2.2.1, .sl (.sl (.int .i64)) v0.2.2.2.1])] ?_
    refine zB [(1, .int .i64 from0), (2, .sl (.int .i64) word), (9, .bp 9 0), (23, .bool (!v0_2))] [(9, .box 60 [.int .i64 v0.1, .int .i64 v0.2.1, .sl (.sl (.int .i64)) v0.2.2.1, .sl (.sl (.int .i64)) v0.2.2.2.1])] ?_
    refine zQ h (fun hb4 h => ?_) (fun hb4 h => ?_)
    ·
      refine zo ?_
      refine zB [(6, .cv (.slice none 0 0)), (7, .int .i64 0), (8, .int .i64 2)] [] ?_
      refine zr ?_
      obtain rfl := Option.some.inj h
      exact zR [] [2000] []
    ·
      refine zk ?_
      refine zo ?_
      refine zS 3 [(25, .agg [.int .i64 v0.1, .int .i64 v0.2.1, .sl (.sl (.int .i64)) v0.2.2.1, .sl (.sl (.int .i64)) v0.2.2.2.1]), (26, .int .i64 from0), (27, .sl (.int .i64) word)] [] ?_
      obtain ⟨v0_3, hv5, h⟩ := Option.bind_eq_some_iff.1 h
      refine zC [] [] (hc_spec_machine_run (v0.1, v0.2.1, v0.2.2.1, v0.2.2.2.1) from0 word hv5) [(28, .tup [.own 38000, .int .i64 v0_3.2])] [(38000, .arr 3 (.int .i64) v0_3.1)] ?_
      refine zB [(6, .own 38000), (7, .int .i64 v0_3.2)] [(38000, .arr 3 (.int .i64) v0_3.1)] ?_
      refine zo ?_
      refine zB [(6, .own 38000), (7, .int .i64 v0_3.2), (8, .int .i64 0)] [(38000, .arr 3 (.int .i64) v0_3.1)] ?_
      refine AW.ret ?_
      obtain rfl := Option.some.inj h
      exact zR [] [] [(2000, 38000)]

theorem hc_spec_machine_same (m : Int × Int × (List (List Int)) × (List (List Int))) (a : Int) (b : Int) {r : Bool} (h : spec_machine_same m a b = some r) : HC Try.prog 67 [] [.agg [.int .i64 m.1, .int .i64 m.2.1, .sl (.sl (.int .i64)) m.2.2.1, .sl (.sl (.int .i64)) m.2.2.2], .int .i64 a, .int .i64 b] [] (.bool r) := by
  unfold spec_machine_same at h
  refine zH Try.func67 [.tmp 6] 23 ?_
  refine zo ?_
  refine zB [(1, .int .i64 a), (2, .int .i64 b), (3, .bp 3 0)] [(3, .box 60 [.int .i64 m.1, .int .i64 m.2.1, .sl (.sl (.int .i64)) m.2.2.1, .sl (.sl (.int .i64)) m.2.2.2])] ?_
  refine AW.seq ?_
  refine zo ?_
  refine zB [(1, .int .i64 a), (2, .int .i64 b), (3, .bp 3 0), (11, .bool (decide (a = b)))] [(3, .box 60 [.int .i64 m.1, .int .i64 m.2.1, .sl (.sl (.int .i64)) m.2.2.1, .sl (.sl (.int .i64)) m.2.2.2])] ?_
  refine zQ h (fun hb1 h => ?_) (fun hb1 h => ?_)
  ·
    refine zo ?_
    refine zB [(6, .bool true)] [] ?_
    refine zr ?_
    obtain rfl := Option.some.inj h
    exact zR [] [] []
  ·
    refine zk ?_
    refine zo ?_
    refine zS 5 [(13, .agg [.int .i64 m.1, .int .i64 m.2.1, .sl (.sl (.int .i64)) m.2.2.1, .sl (.sl (.int .i64)) m.2.2.2]), (14, .agg [.int .i64 m.1, .int .i64 m.2.1, .sl (.sl (.int .i64)) m.2.2.1, .sl (.sl (.int .i64)) m.2.2.2]), (17, .agg [.int .i64 a, .int .i64 b])] [] ?_
    obtain ⟨v0, hv2, h⟩ := Option.bind_eq_some_iff.1 h
    refine zC [] [] (hc_spec_apart m m (a, b) hv2) [(18, .tup [.own 28000, .bool v0.2])] [(28000, .arr 3 (.int .i64) v0.1)] ?_
    refine zB [(8, .bool v0.2)] [] ?_
    refine zo ?_
    refine zB [(6, .bool (!v0.2))] [] ?_
    refine AW.ret ?_
    obtain rfl := Option.some.inj h
    exact zR [] [] []

theorem hc_spec_machine_commute (m : Int × Int × (List (List Int)) × (List (List Int))) (state : Int) (a : Int) (b : Int) {r : Bool} (h : spec_machine_commute m state a b = some r) : HC Try.prog 85 [] [.agg [.int .i64 m.1, .int .i64 m.2.1, .sl (.sl (.int .i64)) m.2.2.1, .sl (.sl (.int .i64)) m.2.2.2], .int .i64 state, .int .i64 a, .int .i64 b] [] (.bool r) := by
  unfold spec_machine_commute at h
  refine zH Try.func85 [.tmp 8] 53 ?_
  refine zo ?_
  refine zB [(1, .int .i64 state), (2, .int .i64 a), (3, .int .i64 b), (4, .bp 4 0)] [(4, .box 60 [.int .i64 m.1, .int .i64 m.2.1, .sl (.sl (.int .i64)) m.2.2.1, .sl (.sl (.int .i64)) m.2.2.2])] ?_
  refine zo ?_
  refine zS 5 [(1, .int .i64 state), (2, .int .i64 a), (3, .int .i64 b), (4, .bp 4 0), (14, .agg [.int .i64 m.1, .int .i64 m.2.1, .sl (.sl (.int .i64)) m.2.2.1, .sl (.sl (.int .i64)) m.2.2.2]), (15, .int .i64 state), (18, .own 18)] [(4, .box 60 [.int .i64 m.1, .int .i64 m.2.1, .sl (.sl (.int .i64)) m.2.2.1, .sl (.sl (.int .i64)) m.2.2.2]), (18, .arr 3 (.int .i64) [a, b])] ?_
  obtain ⟨v0, hv1, h⟩ := Option.bind_eq_some_iff.1 h
  refine zC [18] [] (hc_spec_machine_run m state [a, b] hv1) [(1, .int .i64 state), (2, .int .i64 a), (3, .int .i64 b), (4, .bp 4 0), (19, .tup [.own 29000, .int .i64 v0.2])] [(4, .box 60 [.int .i64 m.1, .int .i64 m.2.1, .sl (.sl (.int .i64)) m.2.2.1, .sl (.sl (.int .i64)) m.2.2.2]), (29000, .arr 3 (.int .i64) v0.1)] ?_
  refine zB [(1, .int .i64 state), (2, .int .i64 a), (3, .int .i64 b), (4, .bp 4 0), (9, .own 29000), (10, .int .i64 v0.2)] [(4, .box 60 [.int .i64 m.1, .int .i64 m.2.1, .sl (.sl (.int .i64)) m.2.2.1, .sl (.sl (.int .i64)) m.2.2.2]), (29000, .arr 3 (.int .i64) v0.1)] ?_
  refine zo ?_
  refine zS 5 [(4, .bp 4 0), (9, .own 29000), (10, .int .i64 v0.2), (23, .agg [.int .i64 m.1, .int .i64 m.2.1, .sl (.sl (.int .i64)) m.2.2.1, .sl (.sl (.int .i64)) m.2.2.2]), (24, .int .i64 state), (27, .own 27)] [(4, .box 60 [.int .i64 m.1, .int .i64 m.2.1, .sl (.sl (.int .i64)) m.2.2.1, .sl (.sl (.int .i64)) m.2.2.2]), (27, .arr 3 (.int .i64) [b, a]), (29000, .arr 3 (.int .i64) v0.1)] ?_
  obtain ⟨v0_2, hv2, h⟩ := Option.bind_eq_some_iff.1 h
  refine zC [27] [] (hc_spec_machine_run m state [b, a] hv2) [(4, .bp 4 0), (9, .own 29000), (10, .int .i64 v0.2), (28, .tup [.own 38000, .int .i64 v0_2.2])] [(4, .box 60 [.int .i64 m.1, .int .i64 m.2.1, .sl (.sl (.int .i64)) m.2.2.1, .sl (.sl (.int .i64)) m.2.2.2]), (29000, .arr 3 (.int .i64) v0.1), (38000, .arr 3 (.int .i64) v0_2.1)] ?_
  refine zB [(4, .bp 4 0), (9, .own 29000), (10, .int .i64 v0.2), (11, .own 38000), (12, .int .i64 v0_2.2)] [(4, .box 60 [.int .i64 m.1, .int .i64 m.2.1, .sl (.sl (.int .i64)) m.2.2.1, .sl (.sl (.int .i64)) m.2.2.2]), (29000, .arr 3 (.int .i64) v0.1), (38000, .arr 3 (.int .i64) v0_2.1)] ?_
  refine AW.seq ?_
  refine AW.draw tab_ok mixed_ok [] [] (by decide) (by kernel_rfl) ?_
  obtain ⟨c4, h⟩ := ck_some.1 h
  obtain ⟨c5, h⟩ := ck_some.1 h
  refine adops_cut 6 (fun K' hK3 => ?_)
  try dsimp only [List.drop_succ_cons, List.drop_zero, List.take_succ_cons, List.take_zero]
  simp only [go_sem]
  repeat (with_reducible refine And.intro (by first | assumption | rfl | omega | trivial | (unfold maxLen; omega)) ?_)
  refine hK3 _ ?_
  refine adops_cut 2 (fun K' hK6 => ?_)
  try dsimp only [List.drop_succ_cons, List.drop_zero, List.take_succ_cons, List.take_zero]
  simp only [go_sem]
  repeat (with_reducible refine And.intro (by first | assumption | rfl | omega | trivial | (unfold maxLen; omega)) ?_)
  refine hK6 _ ?_
  rcases zI h with ⟨hb7, h⟩ | ⟨hb7, h⟩
  ·
    simp only [hb7]
    obtain ⟨c9, h⟩ := ck_some.1 h
    obtain ⟨c10, h⟩ := ck_some.1 h
    refine adops_cut 6 (fun K' hK8 => ?_)
    try dsimp only [List.drop_succ_cons, List.drop_zero, List.take_succ_cons, List.take_zero]
    simp only [go_sem, hb7]
    repeat (with_reducible refine And.intro (by first | assumption | rfl | omega | trivial | (unfold maxLen; omega)) ?_)
    refine hK8 _ ?_
    refine adops_cut 3 (fun K' hK11 => ?_)
    try dsimp only [List.drop_succ_cons, List.drop_zero, List.take_succ_cons, List.take_zero]
    simp only [go_sem, hb7]
    repeat (with_reducible refine And.intro (by first | assumption | rfl | omega | trivial | (unfold maxLen; omega)) ?_)
    refine hK11 _ ?_
    rcases zI h with ⟨hb12, h⟩ | ⟨hb12, h⟩
    ·
      simp only [hb12]
      refine adops_cut 3 (fun K' hK13 => ?_)
      try dsimp only [List.drop_succ_cons, List.drop_zero, List.take_succ_cons, List.take_zero]
      simp only [go_sem, hb7, hb12]
      repeat (with_reducible refine And.intro (by first | assumption | rfl | omega | trivial | (unfold maxLen; omega)) ?_)
      refine hK13 _ ?_
      obtain ⟨v0_3, hv14, h⟩ := Option.bind_eq_some_iff.1 h
      refine adops.call (by first | trivial | rfl) rfl rfl rfl (fun _ h => ⟨fun _ => h, fun hn => absurd rfl hn⟩) [] [] (hc_spec_machine_same m v0.2 v0_2.2 hv14) rfl (by (simp only [go_sem, hb7, hb12]) <;> (with_reducible and_intros) <;> first | assumption | rfl | omega | (unfold maxLen; omega)) (by (simp only [go_sem, hb7, hb12]) <;> (with_reducible and_intros) <;> first | assumption | rfl | omega | (unfold maxLen; omega)) rfl ?_
      refine adops_cut 2 (fun K' hK15 => ?_)
      try dsimp only [List.drop_succ_cons, List.drop_zero, List.take_succ_cons, List.take_zero]
      simp only [go_sem, hb7, hb12]
      repeat (with_reducible refine And.intro (by first | assumption | rfl | omega | trivial | (unfold maxLen; omega)) ?_)
      refine hK15 _ ?_
      refine adops_nil ?_
      refine athen_n ?_
      refine zV [(8, .bool v0_3)] [] gt ?_
      refine AW.ret ?_
      obtain rfl := Option.some.inj h
      exact zR [] [] []
    ·
      simp only [hb12]
      refine adops_cut 4 (fun K' hK16 => ?_)
      try dsimp only [List.drop_succ_cons, List.drop_zero, List.take_succ_cons, List.take_zero]
      simp only [go_sem, hb7, hb12]
      repeat (with_reducible refine And.intro (by first | assumption | rfl | omega | trivial | (unfold maxLen; omega)) ?_)
      refine hK16 _ ?_
      refine adops_cut 2 (fun K' hK17 => ?_)
      try dsimp only [List.drop_succ_cons, List.drop_zero, List.take_succ_cons, List.take_zero]
      simp only [go_sem, hb7, hb12]
      repeat (with_reducible refine And.intro (by first | assumption | rfl | omega | trivial | (unfold maxLen; omega)) ?_)
      refine hK17 _ ?_
      refine adops_nil ?_
      refine athen_n ?_
      refine zV [(8, .bool false)] [] gt ?_
      refine AW.ret ?_
      obtain rfl := Option.some.inj h
      exact zR [] [] []
  ·
    simp only [hb7]
    refine adops_cut 4 (fun K' hK18 => ?_)
    try dsimp only [List.drop_succ_cons, List.drop_zero, List.take_succ_cons, List.take_zero]
    simp only [go_sem, hb7]
    repeat (with_reducible refine And.intro (by first | assumption | rfl | omega | trivial | (unfold maxLen; omega)) ?_)
    refine hK18 _ ?_
    refine adops_cut 6 (fun K' hK19 => ?_)
    try dsimp only [List.drop_succ_cons, List.drop_zero, List.take_succ_cons, List.take_zero]
    simp only [go_sem, hb7]
    repeat (with_reducible refine And.intro (by first | assumption | rfl | omega | trivial | (unfold maxLen; omega)) ?_)
    refine hK19 _ ?_
    refine adops_cut 5 (fun K' hK20 => ?_)
    try dsimp only [List.drop_succ_cons, List.drop_zero, List.take_succ_cons, List.take_zero]
    simp only [go_sem, hb7]
    repeat (with_reducible refine And.intro (by first | assumption | rfl | omega | trivial | (unfold maxLen; omega)) ?_)
    refine hK20 _ ?_
    refine adops_nil ?_
    refine athen_n ?_
    refine zV [(8, .bool false)] [] gt ?_
    refine AW.ret ?_
    obtain rfl := Option.some.inj h
    exact zR [] [] []

theorem hc_spec_told (s : Int × Int × (List (List Int)) × (List (List Int))) (state : Int) (a : Int) (b : Int) {r : Bool × Int} (h : spec_told s state a b = some r) : HC Try.prog 84 [] [.agg [.int .i64 s.1, .int .i64 s.2.1, .sl (.sl (.int .i64)) s.2.2.1, .sl (.sl (.int .i64)) s.2.2.2], .fn (.func 85) [] [], .int .i64 state, .int .i64 a, .int .i64 b] [] (.tup [.bool r.1, .int .i64 r.2]) := by
  unfold spec_told at h
  refine zH Try.func84 [.tmp 10, .tmp 11] 37 ?_
  refine zo ?_
  refine zB [(1, .fn (.func 85) [] []), (2, .int .i64 state), (3, .int .i64 a), (4, .int .i64 b), (5, .bp 5 0)] [(5, .box 24 [.int .i64 s.1, .int .i64 s.2.1, .sl (.sl (.int .i64)) s.2.2.1, .sl (.sl (.int .i64)) s.2.2.2])] ?_
  refine zo ?_
  refine zS 3 [(1, .fn (.func 85) [] []), (2, .int .i64 state), (3, .int .i64 a), (4, .int .i64 b), (15, .agg [.int .i64 s.1, .int .i64 s.2.1, .sl (.sl (.int .i64)) s.2.2.1, .sl (.sl (.int .i64)) s.2.2.2]), (17, .own 17)] [(17, .arr 3 (.int .i64) [state])] ?_
  obtain ⟨v0, hv1, h⟩ := Option.bind_eq_some_iff.1 h
  refine zC [17] [] (hc_spec_checked s [state] hv1) [(1, .fn (.func 85) [] []), (2, .int .i64 state), (3, .int .i64 a), (4, .int .i64 b), (18, .tup [.agg [.int .i64 v0.1, .int .i64 v0.2.1, .sl (.sl (.int .i64)) v0.2.2.1, .sl (.sl (.int .i64)) v0.2.2.2.1], .int .i64 v0.2.2.2.2])] [] ?_
  refine zB [(1, .fn (.func 85) [] []), (2, .int .i64 state), (3, .int .i64 a), (4, .int .i64 b), (12, .bp 12 0), (13, .int .i64 v0.2.2.2.2)] [(12, .box 60 [.int .i64 v0.1, .int .i64 v0.2.1, .sl (.sl (.int .i64)) v0.2.2.1, .sl (.sl (.int .i64)) v0.2.2.2.1])] ?_
  refine AW.seq ?_
  refine zo ?_
  refine zB [(1, .fn (.func 85) [] []), (2, .int .i64 state), (3, .int .i64 a), (4, .int .i64 b), (12, .bp 12 0), (13, .int .i64 v0.2.2.2.2), (22, .bool (!(decide (v0.2.2.2.2 = 0))))] [(12, .box 60 [.int .i64 v0.1, .int .i64 v0.2.1, .sl (.sl (.int .i64)) v0.2.2.1, .sl (.sl (.int .i64)) v0.2.2.2.1])] ?_
  refine zQ h (fun hb2 h => ?_) (fun hb2 h => ?_)
  ·
    refine zo ?_
    refine zB [(10, .bool false), (11, .int .i64 v0.2.2.2.2)] [] ?_
    refine zr ?_
    obtain rfl := Option.some.inj h
    exact zR [] [] []
  ·
    refine zk ?_
    refine AW.seq ?_
    refine zo ?_
    refine zS 5 [(1, .fn (.func 85) [] []), (2, .int .i64 state), (3, .int .i64 a), (4, .int .i64 b), (12, .bp 12 0), (25, .fn (.func 90) [.agg [.int .i64 v0.1, .int .i64 v0.2.1, .sl (.sl (.int .i64)) v0.2.2.1, .sl (.sl (.int .i64)) v0.2.2.2.1]] []), (28, .own 28)] [(12, .box 60 [.int .i64 v0.1, .int .i64 v0.2.1, .sl (.sl (.int .i64)) v0.2.2.1, .sl (.sl (.int .i64)) v0.2.2.2.1]), (28, .arr 3 (.int .i64) [a, b])] ?_
    obtain ⟨v0_2, hv3, h⟩ := Option.bind_eq_some_iff.1 h
    refine zC [28] [] (hc_spec_all_3 (v0.1, v0.2.1, v0.2.2.1, v0.2.2.2.1) [a, b] hv3) [(1, .fn (.func 85) [] []), (2, .int .i64 state), (3, .int .i64 a), (4, .int .i64 b), (12, .bp 12 0), (29, .bool v0_2)] [(12, .box 60 [.int .i64 v0.1, .int .i64 v0.2.1, .sl (.sl (.int .i64)) v0.2.2.1, .sl (.sl (.int .i64)) v0.2.2.2.1])] ?_
    refine zB [(1, .fn (.func 85) [] []), (2, .int .i64 state), (3, .int .i64 a), (4, .int .i64 b), (12, .bp 12 0), (30, .bool (!v0_2))] [(12, .box 60 [.int .i64 v0.1, .int .i64 v0.2.1, .sl (.sl (.int .i64)) v0.2.2.1, .sl (.sl (.int .i64)) v0.2.2.2.1])] ?_
    refine zQ h (fun hb4 h => ?_) (fun hb4 h => ?_)
    ·
      refine zo ?_
      refine zB [(10, .bool false), (11, .int .i64 2)] [] ?_
      refine zr ?_
      obtain rfl := Option.some.inj h
      exact zR [] [] []
    ·
      refine zk ?_
      refine zo ?_
      refine zS 5 [(31, .fn (.func 85) [] []), (32, .agg [.int .i64 v0.1, .int .i64 v0.2.1, .sl (.sl (.int .i64)) v0.2.2.1, .sl (.sl (.int .i64)) v0.2.2.2.1]), (33, .int .i64 state), (34, .int .i64 a), (35, .int .i64 b)] [] ?_
      obtain ⟨v0_3, hv5, h⟩ := Option.bind_eq_some_iff.1 h
      refine zC [] [] (hc_spec_machine_commute (v0.1, v0.2.1, v0.2.2.1, v0.2.2.2.1) state a b hv5) [(36, .bool v0_3)] [] ?_
      refine zB [(10, .bool v0_3), (11, .int .i64 0)] [] ?_
      refine AW.ret ?_
      obtain rfl := Option.some.inj h
      exact zR [] [] []

theorem hc_spec_Commute (s : Int × Int × (List (List Int)) × (List (List Int))) (state : Int) (a : Int) (b : Int) {r : Bool × Int} (h : spec_Commute s state a b = some r) : HC Try.prog 44 [] [.agg [.int .i64 s.1, .int .i64 s.2.1, .sl (.sl (.int .i64)) s.2.2.1, .sl (.sl (.int .i64)) s.2.2.2], .int .i64 state, .int .i64 a, .int .i64 b] [] (.tup [.bool r.1, .int .i64 r.2]) := by
  unfold spec_Commute at h
  refine zH Try.func44 [.tmp 8, .tmp 9] 17 ?_
  refine zo ?_
  refine zB [(1, .int .i64 state), (2, .int .i64 a), (3, .int .i64 b), (4, .bp 4 0)] [(4, .box 24 [.int .i64 s.1, .int .i64 s.2.1, .sl (.sl (.int .i64)) s.2.2.1, .sl (.sl (.int .i64)) s.2.2.2])] ?_
  refine zo ?_
  refine zS 4 [(10, .agg [.int .i64 s.1, .int .i64 s.2.1, .sl (.sl (.int .i64)) s.2.2.1, .sl (.sl (.int .i64)) s.2.2.2]), (11, .int .i64 state), (12, .int .i64 a), (13, .int .i64 b)] [] ?_
  obtain ⟨v0, hv1, h⟩ := Option.bind_eq_some_iff.1 h
  refine zC [] [] (hc_spec_told s state a b hv1) [(14, .tup [.bool v0.1, .int .i64 v0.2])] [] ?_
  refine zB [(8, .bool v0.1), (9, .int .i64 v0.2)] [] ?_
  refine AW.ret ?_
  obtain rfl := Option.some.inj h
  exact zR [] [] []

theorem hc_slices_Grow (n : Int) {r : Unit} (h : slices_Grow n = some r) : HC Try.prog 99 [] [.cv (.slice none 0 0), .int .i64 n] [(2000, .arr 3 (.int .i64) [])] (.own 2000) := by
  unfold slices_Grow at h
  refine zH Try.func99 [.tmp 4] 27 ?_
  refine zo ?_
  refine zB [(0, .cv (.slice none 0 0)), (1, .int .i64 n)] [] ?_
  refine AW.seq ?_
  refine zo ?_
  refine zB [(0, .cv (.slice none 0 0)), (1, .int .i64 n), (6, .bool (decide (n < 0)))] [] ?_
  refine zQ h (fun hb1 h => ?_) (fun hb1 h => ?_)
  ·
    refine AW.ops ?_
    cases h
  ·
    refine zk ?_
    refine AW.seq ?_
    refine zo ?_
    refine zS 2 [(0, .cv (.slice none 0 0)), (8, .int .i64 n), (9, .cv (.slice none 0 0))] [] ?_
    refine AO.capNil tab_ok (by decide) rfl rfl rfl rfl rfl tab_25 rfl rfl ?_
    refine zT [(0, .cv (.slice none 0 0)), (8, .int .i64 n), (10, .int .i64 0)] [] gt ?_
    obtain ⟨c2, h⟩ := ck_some.1 h
    obtain ⟨c3, h⟩ := ck_some.1 h
    refine zB [(0, .cv (.slice none 0 0)), (1, .int .i64 (n - (0 - 0)))] [] ?_
    refine zo ?_
    refine zB [(0, .cv (.slice none 0 0)), (1, .int .i64 (n - (0 - 0))), (16, .bool (decide (0 < (n - (0 - 0)))))] [] ?_
    refine zQ h (fun hb4 h => ?_) (fun hb4 h => ?_)
    ·
      refine AW.ops ?_
      refine zS 2 [(0, .cv (.slice none 0 0)), (1, .int .i64 (n - (0 - 0))), (17, .cv (.slice none 0 0)), (18, .cv (.slice none 0 0))] [] ?_
      refine AO.capNil tab_ok (by decide) rfl rfl rfl rfl rfl tab_25 rfl rfl ?_
      refine zT [(0, .cv (.slice none 0 0)), (1, .int .i64 (n - (0 - 0))), (17, .cv (.slice none 0 0)), (19, .int .i64 0)] [] gt ?_
      refine AO.sliceNil tab_ok (by decide) rfl rfl tab_25 rfl tab_3 rfl rfl ?_
      refine zT [(0, .cv (.slice none 0 0)), (1, .int .i64 (n - (0 - 0))), (20, .cv (.slice none 0 0))] [] gt ?_
      refine zS 1 [(0, .cv (.slice none 0 0)), (20, .cv (.slice none 0 0)), (21, .int .i64 (n - (0 - 0)))] [] ?_
      obtain ⟨c5, h⟩ := ck_some.1 h
      obtain ⟨c6, h⟩ := ck_some.1 h
      obtain ⟨c7, h⟩ := ck_some.1 h
      refine AO.appendZeros tab_ok (by decide) (by decide) rfl rfl rfl rfl rfl tab_25 rfl tab_3 rfl tab_3 rfl rfl rfl (by first | assumption | omega | (simp only [go_sem, hb1, hb4]) <;> (with_reducible and_intros) <;> first | assumption | rfl | omega | (unfold maxLen; omega)) (by first | assumption | omega | (simp only [go_sem, hb1, hb4]) <;> (with_reducible and_intros) <;> first | assumption | rfl | omega | (unfold maxLen; omega)) (by first | assumption | omega | (simp only [go_sem, hb1, hb4]) <;> (with_reducible and_intros) <;> first | assumption | rfl | omega | (unfold maxLen; omega)) ?_
      refine zT [(0, .cv (.slice none 0 0)), (22, .own 22)] [(22, .arr 3 (.int .i64) (List.replicate (n - (0 - 0)).toNat (0 : Int)))] gt ?_
      refine zS 2 [(22, .own 22), (24, .int .i64 0)] [(22, .arr 3 (.int .i64) (List.replicate (n - (0 - 0)).toNat (0 : Int)))] ?_
      obtain ⟨c8, h⟩ := ck_some.1 h
      obtain ⟨c9, h⟩ := ck_some.1 h
      refine AO.sliceOwn tab_ok (by decide) (by decide) rfl rfl tab_25 rfl tab_3 rfl rfl rfl rfl (by first | assumption | omega | (simp only [go_sem, hb1, hb4]) <;> (with_reducible and_intros) <;> first | assumption | rfl | omega | (unfold maxLen; omega)) (by first | assumption | omega | (simp only [go_sem, hb1, hb4]) <;> (with_reducible and_intros) <;> first | assumption | rfl | omega | (unfold maxLen; omega)) ?_
      refine zT [(25, .own 25)] [(25, .arr 3 (.int .i64) [])] gt ?_
      refine zB [(0, .own 25)] [(25, .arr 3 (.int .i64) [])] ?_
      refine zo ?_
      refine zB [(4, .own 25)] [(25, .arr 3 (.int .i64) [])] ?_
      refine AW.ret ?_
      obtain rfl := Option.some.inj h
      exact zR [] [] [(2000, 25)]
    ·
      refine zk ?_
      refine zo ?_
      refine zB [(4, .cv (.slice none 0 0))] [] ?_
      refine AW.ret ?_
      obtain rfl := Option.some.inj h
      exact zR [] [2000] []

theorem hc_slices_Concat (slices : List (List Int)) {r : (List Int)} (h : slices_Concat slices = some r) : HC Try.prog 83 [] [.sl (.sl (.int .i64)) slices] [(2000, .arr 3 (.int .i64) r)] (.own 2000) := by
  unfold slices_Concat at h
  refine zH Try.func83 [.tmp 2] 36 ?_
  refine zo ?_
  refine zB [(0, .sl (.sl (.int .i64)) slices)] [] ?_
  refine zo ?_
  refine zB [(0, .sl (.sl (.int .i64)) slices), (3, .int .i64 0)] [] ?_
  refine AW.have1 (fun b1 : Int => slices_Concat_k1 slices b1 = some r) (fun b1 => ⟨fr [(0, .sl (.sl (.int .i64)) slices), (3, .int .i64 b1)], hpGet [], gt⟩) (fun b1 h => ?_) (fun hk_slices_Concat_k1 => ?_)
  · unfold slices_Concat_k1 at h
    refine zo ?_
    refine zS 1 [(0, .sl (.sl (.int .i64)) slices), (23, .int .i64 b1)] [] ?_
    obtain ⟨v0, hv1, h⟩ := Option.bind_eq_some_iff.1 h
    refine zC [] [] (hc_slices_Grow b1 hv1) [(0, .sl (.sl (.int .i64)) slices), (24, .own 34000)] [(34000, .arr 3 (.int .i64) [])] ?_
    refine zB [(0, .sl (.sl (.int .i64)) slices), (6, .own 34000)] [(34000, .arr 3 (.int .i64) [])] ?_
    refine AW.have1 (fun b2 : (List Int) => slices_Concat_k2 b2 = some r) (fun b2 => ⟨fr [(6, .own 34000)], hpGet [(34000, .arr 3 (.int .i64) b2)], gt⟩) (fun b2 h => ?_) (fun hk_slices_Concat_k2 => ?_)
    · unfold slices_Concat_k2 at h
      refine zo ?_
      refine zB [(2, .own 34000)] [(34000, .arr 3 (.int .i64) b2)] ?_
      refine AW.ret ?_
      obtain rfl := Option.some.inj h
      exact zR [] [] [(2000, 34000)]
    · refine AW.seq ?_
      refine zo ?_
      refine zB [(6, .own 34000), (25, .sl (.sl (.int .i64)) slices), (26, .int .i64 (slices.length : Int)), (27, .int .i64 0)] [(34000, .arr 3 (.int .i64) [])] ?_
      refine AW.block ?_
      obtain ⟨rv6, hw2, ho3⟩ := Option.bind_eq_some_iff.1 h
      refine AW.loopO (slices_Concat_b2 slices) (fun st2 => ⟨fr [(6, .own 34000), (25, .sl (.sl (.int .i64)) slices), (26, .int .i64 (slices.length : Int)), (27, .int .i64 st2.2)], hpGet [(34000, .arr 3 (.int .i64) st2.1)], gt⟩) ([], 0) hw2 (zL [] [] []) ?_
      intro st2 x5 h hd4
      unfold slices_Concat_b2 at h
      refine zo ?_
      refine zB [(6, .own 34000), (25, .sl (.sl (.int .i64)) slices), (26, .int .i64 (slices.length : Int)), (27, .int .i64 st2.2), (28, .bool (decide (st2.2 < (slices.length : Int))))] [(34000, .arr 3 (.int .i64) st2.1)] ?_
      refine AW.seq ?_
      refine zQ h (fun hb7 h => ?_) (fun hb7 h => ?_)
      ·
        refine zk ?_
        refine AW.seq ?_
        refine AW.block ?_
        refine zo ?_
        obtain ⟨c8, h⟩ := ck_some.1 h
        obtain ⟨c9, h⟩ := ck_some.1 h
        refine zB [(6, .own 34000), (8, .sl (.int .i64) (slices.getD st2.2.toNat [])), (25, .sl (.sl (.int .i64)) slices), (26, .int .i64 (slices.length : Int)), (27, .int .i64 st2.2)] [(34000, .arr 3 (.int .i64) st2.1)] ?_
        refine AW.ops ?_
        obtain ⟨c10, h⟩ := ck_some.1 h
        refine zA [(6, .own 33), (25, .sl (.sl (.int .i64)) slices), (26, .int .i64 (slices.length : Int)), (27, .int .i64 st2.2)] [(33, .arr 3 (.int .i64) (st2.1 ++ (slices.getD st2.2.toNat [])))] ?_
        refine ablock_n ?_
        refine athen_n ?_
        refine AW.ops ?_
        obtain ⟨c11, h⟩ := ck_some.1 h
        refine zA [(6, .own 33), (25, .sl (.sl (.int .i64)) slices), (26, .int .i64 (slices.length : Int)), (27, .int .i64 (st2.2 + 1))] [(33, .arr 3 (.int .i64) (st2.1 ++ (slices.getD st2.2.toNat [])))] ?_
        obtain rfl := Option.some.inj h
        exact ⟨_, rfl, zL [] [] [(34000, 33)]⟩
      ·
        refine AW.exit ?_
        refine athen_e ?_
        obtain rfl := Option.some.inj h
        rw [← hd4 _ rfl] at ho3
        have h := ho3
        refine athen_e ?_
        refine ablock_s ?_
        refine athen_n ?_
        exact AW.weaken (zL [] [] []) (hk_slices_Concat_k2 _ h)
  · refine AW.seq ?_
    refine zo ?_
    refine zB [(0, .sl (.sl (.int .i64)) slices), (3, .int .i64 0), (9, .sl (.sl (.int .i64)) slices), (10, .int .i64 (slices.length : Int)), (11, .int .i64 0)] [] ?_
    refine AW.block ?_
    obtain ⟨rv16, hw12, ho13⟩ := Option.bind_eq_some_iff.1 h
    refine AW.loopO (slices_Concat_b1 slices) (fun st1 => ⟨fr [(0, .sl (.sl (.int .i64)) slices), (3, .int .i64 st1.1), (9, .sl (.sl (.int .i64)) slices), (10, .int .i64 (slices.length : Int)), (11, .int .i64 st1.2)], hpGet [], gt⟩) (0, 0) hw12 (zL [] [] []) ?_
    intro st1 x15 h hd14
    unfold slices_Concat_b1 at h
    refine zo ?_
    refine zB [(0, .sl (.sl (.int .i64)) slices), (3, .int .i64 st1.1), (9, .sl (.sl (.int .i64)) slices), (10, .int .i64 (slices.length : Int)), (11, .int .i64 st1.2), (12, .bool (decide (st1.2 < (slices.length : Int))))] [] ?_
    refine AW.seq ?_
    refine zQ h (fun hb17 h => ?_) (fun hb17 h => ?_)
    ·
      refine zk ?_
      refine AW.seq ?_
      refine AW.block ?_
      refine zo ?_
      obtain ⟨c18, h⟩ := ck_some.1 h
      obtain ⟨c19, h⟩ := ck_some.1 h
      refine zB [(0, .sl (.sl (.int .i64)) slices), (3, .int .i64 st1.1), (5, .sl (.int .i64) (slices.getD st1.2.toNat [])), (9, .sl (.sl (.int .i64)) slices), (10, .int .i64 (slices.length : Int)), (11, .int .i64 st1.2)] [] ?_
      refine zo ?_
      obtain ⟨c20, h⟩ := ck_some.1 h
      refine zB [(0, .sl (.sl (.int .i64)) slices), (3, .int .i64 (st1.1 + ((slices.getD st1.2.toNat []).length : Int))), (9, .sl (.sl (.int .i64)) slices), (10, .int .i64 (slices.length : Int)), (11, .int .i64 st1.2)] [] ?_
      refine zo ?_
      refine zB [(0, .sl (.sl (.int .i64)) slices), (3, .int .i64 (st1.1 + ((slices.getD st1.2.toNat []).length : Int))), (9, .sl (.sl (.int .i64)) slices), (10, .int .i64 (slices.length : Int)), (11, .int .i64 st1.2), (20, .bool (decide ((st1.1 + ((slices.getD st1.2.toNat []).length : Int)) < 0)))] [] ?_
      refine zQ h (fun hb21 h => ?_) (fun hb21 h => ?_)
      ·
        refine AW.ops ?_
        cases h
      ·
        refine zm ?_
        refine athen_n ?_
        refine AW.ops ?_
        obtain ⟨c22, h⟩ := ck_some.1 h
        refine zA [(0, .sl (.sl (.int .i64)) slices), (3, .int .i64 (st1.1 + ((slices.getD st1.2.toNat []).length : Int))), (9, .sl (.sl (.int .i64)) slices), (10, .int .i64 (slices.length : Int)), (11, .int .i64 (st1.2 + 1))] [] ?_
        obtain rfl := Option.some.inj h
        exact ⟨_, rfl, zL [] [] []⟩
    ·
      refine AW.exit ?_
      refine athen_e ?_
      obtain rfl := Option.some.inj h
      rw [← hd14 _ rfl] at ho13
      have h := ho13
      refine athen_e ?_
      refine ablock_s ?_
      refine athen_n ?_
      exact AW.weaken (zL [] [] []) (hk_slices_Concat_k1 _ h)

end Go.Proofs.Ytfmokmhphfdbpaa
