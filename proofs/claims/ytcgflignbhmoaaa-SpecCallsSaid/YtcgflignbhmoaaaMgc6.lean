/-
  Made by wip/tool/dc.py out of the print of the program: contracts.
-/
import Derived.Test.YtcgflignbhmoaaaQp
import Derived.Test.YtcgflignbhmoaaaShs
import Derived.Test.YtcgflignbhmoaaaMgc2
import Derived.Test.YtcgflignbhmoaaaMgc3
import Derived.Test.YtcgflignbhmoaaaMgc4
namespace Go.Proofs.Ytcgflignbhmoaaa
open Go.RowKit

set_option linter.unusedSimpArgs false
set_option linter.unusedVariables false
set_option linter.constructorNameAsVariable false

set_option maxRecDepth 100000
set_option maxHeartbeats 2000000

theorem hc_spec_machine_run (m : Int × Int × (List (List Int)) × (List (List Int))) (from0 : Int) (word : List Int) {r : (List Int) × Int} (h : spec_machine_run m from0 word = some r) : HC Try.prog 58 [] [.agg [.int .i64 m.1, .int .i64 m.2.1, .sl (.sl (.int .i64)) m.2.2.1, .sl (.sl (.int .i64)) m.2.2.2], .int .i64 from0, .sl (.int .i64) word] [(2000, .arr 3 (.int .i64) r.1)] (.tup [.own 2000, .int .i64 r.2]) := by
 unfold spec_machine_run at h
 refine zH Try.func58 [.tmp 6, .tmp 7] 39 ?_
 refine zo ?_
 refine zB [(1, .int .i64 from0), (2, .sl (.int .i64) word), (3, .bp 3 0), (6, .cv (.slice none 0 0))] [(3, .box 60 [.int .i64 m.1, .int .i64 m.2.1, .sl (.sl (.int .i64)) m.2.2.1, .sl (.sl (.int .i64)) m.2.2.2])] ?_
 refine zo ?_
 refine zB [(2, .sl (.int .i64) word), (3, .bp 3 0), (6, .cv (.slice none 0 0)), (7, .int .i64 from0)] [(3, .box 60 [.int .i64 m.1, .int .i64 m.2.1, .sl (.sl (.int .i64)) m.2.2.1, .sl (.sl (.int .i64)) m.2.2.2])] ?_
 refine AW.have1 (fun b1 : (List Int) × Int => spec_machine_run_k1 b1 = some r) (fun b1 => ⟨fr [(6, .own 27), (7, .int .i64 b1.2)], hpGet [(27, .arr 3 (.int .i64) b1.1)], gt⟩) (fun b1 h => ?_) (fun hk_spec_machine_run_k1 => ?_)
 ·as_aux_lemma =>
   unfold spec_machine_run_k1 at h
   refine zo ?_
   refine zB [(6, .own 27), (7, .int .i64 b1.2)] [(27, .arr 3 (.int .i64) b1.1)] ?_
   refine AW.ret ?_
   obtain rfl := Option.some.inj h
   exact zR [] [] [(2000, 27)]
 ·refine AW.seq ?_
  refine zo ?_
  refine zB [(3, .bp 3 0), (6, .cv (.slice none 0 0)), (7, .int .i64 from0), (11, .sl (.int .i64) word), (12, .int .i64 (word.length : Int)), (13, .int .i64 0)] [(3, .box 60 [.int .i64 m.1, .int .i64 m.2.1, .sl (.sl (.int .i64)) m.2.2.1, .sl (.sl (.int .i64)) m.2.2.2])] ?_
  refine AW.block ?_
  obtain ⟨rv5, hw1, ho2⟩ := Option.bind_eq_some_iff.1 h
  refine AW.loopO (spec_machine_run_b1 m word) (fun st1 => ⟨fr [(3, .bp 3 0), (6, .own 27), (7, .int .i64 st1.2.1), (11, .sl (.int .i64) word), (12, .int .i64 (word.length : Int)), (13, .int .i64 st1.2.2)], hpGet [(3, .box 60 [.int .i64 m.1, .int .i64 m.2.1, .sl (.sl (.int .i64)) m.2.2.1, .sl (.sl (.int .i64)) m.2.2.2]), (27, .arr 3 (.int .i64) st1.1)], gt⟩) ([], from0, 0) hw1 (zL [] [27] []) ?_
  as_aux_lemma =>
   intro st1 x4 h hd3
   unfold spec_machine_run_b1 at h
   refine zo ?_
   refine zB [(3, .bp 3 0), (6, .own 27), (7, .int .i64 st1.2.1), (11, .sl (.int .i64) word), (12, .int .i64 (word.length : Int)), (13, .int .i64 st1.2.2), (14, .bool (decide (st1.2.2 < (word.length : Int))))] [(3, .box 60 [.int .i64 m.1, .int .i64 m.2.1, .sl (.sl (.int .i64)) m.2.2.1, .sl (.sl (.int .i64)) m.2.2.2]), (27, .arr 3 (.int .i64) st1.1)] ?_
   refine AW.seq ?_
   refine zQ h (fun hb6 h => ?_) (fun hb6 h => ?_)
   ·refine zk ?_
    refine AW.seq ?_
    refine AW.block ?_
    refine zo ?_
    obtain ⟨c7, h⟩ := ck_some.1 h
    obtain ⟨c8, h⟩ := ck_some.1 h
    refine zB [(3, .bp 3 0), (6, .own 27), (7, .int .i64 st1.2.1), (9, .int .i64 (word.getD st1.2.2.toNat 0)), (11, .sl (.int .i64) word), (12, .int .i64 (word.length : Int)), (13, .int .i64 st1.2.2)] [(3, .box 60 [.int .i64 m.1, .int .i64 m.2.1, .sl (.sl (.int .i64)) m.2.2.1, .sl (.sl (.int .i64)) m.2.2.2]), (27, .arr 3 (.int .i64) st1.1)] ?_
    refine zo ?_
    obtain ⟨c9, h⟩ := ck_some.1 h
    obtain ⟨c10, h⟩ := ck_some.1 h
    refine zS 5 [(3, .bp 3 0), (7, .int .i64 st1.2.1), (9, .int .i64 (word.getD st1.2.2.toNat 0)), (11, .sl (.int .i64) word), (12, .int .i64 (word.length : Int)), (13, .int .i64 st1.2.2), (17, .own 27), (21, .dp (.sl (.int .i64)) (m.2.2.2.getD st1.2.1.toNat []) 0)] [(3, .box 60 [.int .i64 m.1, .int .i64 m.2.1, .sl (.sl (.int .i64)) m.2.2.1, .sl (.sl (.int .i64)) m.2.2.2]), (27, .arr 3 (.int .i64) st1.1)] ?_
    obtain ⟨c11, h⟩ := ck_some.1 h
    obtain ⟨c12, h⟩ := ck_some.1 h
    refine zS 5 [(3, .bp 3 0), (7, .int .i64 st1.2.1), (9, .int .i64 (word.getD st1.2.2.toNat 0)), (11, .sl (.int .i64) word), (12, .int .i64 (word.length : Int)), (13, .int .i64 st1.2.2), (17, .own 27), (26, .own 26)] [(3, .box 60 [.int .i64 m.1, .int .i64 m.2.1, .sl (.sl (.int .i64)) m.2.2.1, .sl (.sl (.int .i64)) m.2.2.2]), (26, .arr 3 (.int .i64) [((m.2.2.2.getD st1.2.1.toNat []).getD (word.getD st1.2.2.toNat 0).toNat 0)]), (27, .arr 3 (.int .i64) st1.1)] ?_
    obtain ⟨c13, h⟩ := ck_some.1 h
    refine zB [(3, .bp 3 0), (6, .own 27), (7, .int .i64 st1.2.1), (9, .int .i64 (word.getD st1.2.2.toNat 0)), (11, .sl (.int .i64) word), (12, .int .i64 (word.length : Int)), (13, .int .i64 st1.2.2)] [(3, .box 60 [.int .i64 m.1, .int .i64 m.2.1, .sl (.sl (.int .i64)) m.2.2.1, .sl (.sl (.int .i64)) m.2.2.2]), (27, .arr 3 (.int .i64) (st1.1 ++ [((m.2.2.2.getD st1.2.1.toNat []).getD (word.getD st1.2.2.toNat 0).toNat 0)]))] ?_
    refine AW.ops ?_
    obtain ⟨c14, h⟩ := ck_some.1 h
    obtain ⟨c15, h⟩ := ck_some.1 h
    refine zS 5 [(3, .bp 3 0), (6, .own 27), (9, .int .i64 (word.getD st1.2.2.toNat 0)), (11, .sl (.int .i64) word), (12, .int .i64 (word.length : Int)), (13, .int .i64 st1.2.2), (32, .sl (.int .i64) (m.2.2.1.getD st1.2.1.toNat []))] [(3, .box 60 [.int .i64 m.1, .int .i64 m.2.1, .sl (.sl (.int .i64)) m.2.2.1, .sl (.sl (.int .i64)) m.2.2.2]), (27, .arr 3 (.int .i64) (st1.1 ++ [((m.2.2.2.getD st1.2.1.toNat []).getD (word.getD st1.2.2.toNat 0).toNat 0)]))] ?_
    obtain ⟨c16, h⟩ := ck_some.1 h
    obtain ⟨c17, h⟩ := ck_some.1 h
    refine zA [(3, .bp 3 0), (6, .own 27), (7, .int .i64 ((m.2.2.1.getD st1.2.1.toNat []).getD (word.getD st1.2.2.toNat 0).toNat 0)), (11, .sl (.int .i64) word), (12, .int .i64 (word.length : Int)), (13, .int .i64 st1.2.2)] [(3, .box 60 [.int .i64 m.1, .int .i64 m.2.1, .sl (.sl (.int .i64)) m.2.2.1, .sl (.sl (.int .i64)) m.2.2.2]), (27, .arr 3 (.int .i64) (st1.1 ++ [((m.2.2.2.getD st1.2.1.toNat []).getD (word.getD st1.2.2.toNat 0).toNat 0)]))] ?_
    refine ablock_n ?_
    refine athen_n ?_
    refine AW.ops ?_
    obtain ⟨c18, h⟩ := ck_some.1 h
    refine zA [(3, .bp 3 0), (6, .own 27), (7, .int .i64 ((m.2.2.1.getD st1.2.1.toNat []).getD (word.getD st1.2.2.toNat 0).toNat 0)), (11, .sl (.int .i64) word), (12, .int .i64 (word.length : Int)), (13, .int .i64 (st1.2.2 + 1))] [(3, .box 60 [.int .i64 m.1, .int .i64 m.2.1, .sl (.sl (.int .i64)) m.2.2.1, .sl (.sl (.int .i64)) m.2.2.2]), (27, .arr 3 (.int .i64) (st1.1 ++ [((m.2.2.2.getD st1.2.1.toNat []).getD (word.getD st1.2.2.toNat 0).toNat 0)]))] ?_
    obtain rfl := Option.some.inj h
    exact ⟨_, rfl, zL [] [] []⟩
   ·refine AW.exit ?_
    refine athen_e ?_
    obtain rfl := Option.some.inj h
    rw [← hd3 _ rfl] at ho2
    have h := ho2
    refine athen_e ?_
    refine ablock_s ?_
    refine athen_n ?_
    exact AW.weaken (zL [] [] []) (hk_spec_machine_run_k1 _ h)

theorem hc_linealref01_run (s : Int × Int × (List (List Int)) × (List (List Int))) (from0 : Int) (word : List Int) {r : (List Int) × Int} (h : linealref01_run s from0 word = some r) : HC Try.prog 60 [] [.agg [.int .i64 s.1, .int .i64 s.2.1, .sl (.sl (.int .i64)) s.2.2.1, .sl (.sl (.int .i64)) s.2.2.2], .int .i64 from0, .sl (.int .i64) word] [(2000, .arr 3 (.int .i64) r.1)] (.tup [.own 2000, .int .i64 r.2]) := by
 unfold linealref01_run at h
 refine zH Try.func60 [.tmp 6, .tmp 7] 39 ?_
 refine zo ?_
 refine zB [(1, .int .i64 from0), (2, .sl (.int .i64) word), (3, .bp 3 0), (6, .cv (.slice none 0 0))] [(3, .box 24 [.int .i64 s.1, .int .i64 s.2.1, .sl (.sl (.int .i64)) s.2.2.1, .sl (.sl (.int .i64)) s.2.2.2])] ?_
 refine zo ?_
 refine zB [(2, .sl (.int .i64) word), (3, .bp 3 0), (6, .cv (.slice none 0 0)), (7, .int .i64 from0)] [(3, .box 24 [.int .i64 s.1, .int .i64 s.2.1, .sl (.sl (.int .i64)) s.2.2.1, .sl (.sl (.int .i64)) s.2.2.2])] ?_
 refine AW.have1 (fun b1 : (List Int) × Int => linealref01_run_k1 b1 = some r) (fun b1 => ⟨fr [(6, .own 27), (7, .int .i64 b1.2)], hpGet [(27, .arr 3 (.int .i64) b1.1)], gt⟩) (fun b1 h => ?_) (fun hk_linealref01_run_k1 => ?_)
 ·as_aux_lemma =>
   unfold linealref01_run_k1 at h
   refine zo ?_
   refine zB [(6, .own 27), (7, .int .i64 b1.2)] [(27, .arr 3 (.int .i64) b1.1)] ?_
   refine AW.ret ?_
   obtain rfl := Option.some.inj h
   exact zR [] [] [(2000, 27)]
 ·refine AW.seq ?_
  refine zo ?_
  refine zB [(3, .bp 3 0), (6, .cv (.slice none 0 0)), (7, .int .i64 from0), (11, .sl (.int .i64) word), (12, .int .i64 (word.length : Int)), (13, .int .i64 0)] [(3, .box 24 [.int .i64 s.1, .int .i64 s.2.1, .sl (.sl (.int .i64)) s.2.2.1, .sl (.sl (.int .i64)) s.2.2.2])] ?_
  refine AW.block ?_
  obtain ⟨rv5, hw1, ho2⟩ := Option.bind_eq_some_iff.1 h
  refine AW.loopO (linealref01_run_b1 s word) (fun st1 => ⟨fr [(3, .bp 3 0), (6, .own 27), (7, .int .i64 st1.2.1), (11, .sl (.int .i64) word), (12, .int .i64 (word.length : Int)), (13, .int .i64 st1.2.2)], hpGet [(3, .box 24 [.int .i64 s.1, .int .i64 s.2.1, .sl (.sl (.int .i64)) s.2.2.1, .sl (.sl (.int .i64)) s.2.2.2]), (27, .arr 3 (.int .i64) st1.1)], gt⟩) ([], from0, 0) hw1 (zL [] [27] []) ?_
  as_aux_lemma =>
   intro st1 x4 h hd3
   unfold linealref01_run_b1 at h
   refine zo ?_
   refine zB [(3, .bp 3 0), (6, .own 27), (7, .int .i64 st1.2.1), (11, .sl (.int .i64) word), (12, .int .i64 (word.length : Int)), (13, .int .i64 st1.2.2), (14, .bool (decide (st1.2.2 < (word.length : Int))))] [(3, .box 24 [.int .i64 s.1, .int .i64 s.2.1, .sl (.sl (.int .i64)) s.2.2.1, .sl (.sl (.int .i64)) s.2.2.2]), (27, .arr 3 (.int .i64) st1.1)] ?_
   refine AW.seq ?_
   refine zQ h (fun hb6 h => ?_) (fun hb6 h => ?_)
   ·refine zk ?_
    refine AW.seq ?_
    refine AW.block ?_
    refine zo ?_
    obtain ⟨c7, h⟩ := ck_some.1 h
    obtain ⟨c8, h⟩ := ck_some.1 h
    refine zB [(3, .bp 3 0), (6, .own 27), (7, .int .i64 st1.2.1), (9, .int .i64 (word.getD st1.2.2.toNat 0)), (11, .sl (.int .i64) word), (12, .int .i64 (word.length : Int)), (13, .int .i64 st1.2.2)] [(3, .box 24 [.int .i64 s.1, .int .i64 s.2.1, .sl (.sl (.int .i64)) s.2.2.1, .sl (.sl (.int .i64)) s.2.2.2]), (27, .arr 3 (.int .i64) st1.1)] ?_
    refine zo ?_
    obtain ⟨c9, h⟩ := ck_some.1 h
    obtain ⟨c10, h⟩ := ck_some.1 h
    refine zS 5 [(3, .bp 3 0), (7, .int .i64 st1.2.1), (9, .int .i64 (word.getD st1.2.2.toNat 0)), (11, .sl (.int .i64) word), (12, .int .i64 (word.length : Int)), (13, .int .i64 st1.2.2), (17, .own 27), (21, .dp (.sl (.int .i64)) (s.2.2.2.getD st1.2.1.toNat []) 0)] [(3, .box 24 [.int .i64 s.1, .int .i64 s.2.1, .sl (.sl (.int .i64)) s.2.2.1, .sl (.sl (.int .i64)) s.2.2.2]), (27, .arr 3 (.int .i64) st1.1)] ?_
    obtain ⟨c11, h⟩ := ck_some.1 h
    obtain ⟨c12, h⟩ := ck_some.1 h
    refine zS 5 [(3, .bp 3 0), (7, .int .i64 st1.2.1), (9, .int .i64 (word.getD st1.2.2.toNat 0)), (11, .sl (.int .i64) word), (12, .int .i64 (word.length : Int)), (13, .int .i64 st1.2.2), (17, .own 27), (26, .own 26)] [(3, .box 24 [.int .i64 s.1, .int .i64 s.2.1, .sl (.sl (.int .i64)) s.2.2.1, .sl (.sl (.int .i64)) s.2.2.2]), (26, .arr 3 (.int .i64) [((s.2.2.2.getD st1.2.1.toNat []).getD (word.getD st1.2.2.toNat 0).toNat 0)]), (27, .arr 3 (.int .i64) st1.1)] ?_
    obtain ⟨c13, h⟩ := ck_some.1 h
    refine zB [(3, .bp 3 0), (6, .own 27), (7, .int .i64 st1.2.1), (9, .int .i64 (word.getD st1.2.2.toNat 0)), (11, .sl (.int .i64) word), (12, .int .i64 (word.length : Int)), (13, .int .i64 st1.2.2)] [(3, .box 24 [.int .i64 s.1, .int .i64 s.2.1, .sl (.sl (.int .i64)) s.2.2.1, .sl (.sl (.int .i64)) s.2.2.2]), (27, .arr 3 (.int .i64) (st1.1 ++ [((s.2.2.2.getD st1.2.1.toNat []).getD (word.getD st1.2.2.toNat 0).toNat 0)]))] ?_
    refine AW.ops ?_
    obtain ⟨c14, h⟩ := ck_some.1 h
    obtain ⟨c15, h⟩ := ck_some.1 h
    refine zS 5 [(3, .bp 3 0), (6, .own 27), (9, .int .i64 (word.getD st1.2.2.toNat 0)), (11, .sl (.int .i64) word), (12, .int .i64 (word.length : Int)), (13, .int .i64 st1.2.2), (32, .sl (.int .i64) (s.2.2.1.getD st1.2.1.toNat []))] [(3, .box 24 [.int .i64 s.1, .int .i64 s.2.1, .sl (.sl (.int .i64)) s.2.2.1, .sl (.sl (.int .i64)) s.2.2.2]), (27, .arr 3 (.int .i64) (st1.1 ++ [((s.2.2.2.getD st1.2.1.toNat []).getD (word.getD st1.2.2.toNat 0).toNat 0)]))] ?_
    obtain ⟨c16, h⟩ := ck_some.1 h
    obtain ⟨c17, h⟩ := ck_some.1 h
    refine zA [(3, .bp 3 0), (6, .own 27), (7, .int .i64 ((s.2.2.1.getD st1.2.1.toNat []).getD (word.getD st1.2.2.toNat 0).toNat 0)), (11, .sl (.int .i64) word), (12, .int .i64 (word.length : Int)), (13, .int .i64 st1.2.2)] [(3, .box 24 [.int .i64 s.1, .int .i64 s.2.1, .sl (.sl (.int .i64)) s.2.2.1, .sl (.sl (.int .i64)) s.2.2.2]), (27, .arr 3 (.int .i64) (st1.1 ++ [((s.2.2.2.getD st1.2.1.toNat []).getD (word.getD st1.2.2.toNat 0).toNat 0)]))] ?_
    refine ablock_n ?_
    refine athen_n ?_
    refine AW.ops ?_
    obtain ⟨c18, h⟩ := ck_some.1 h
    refine zA [(3, .bp 3 0), (6, .own 27), (7, .int .i64 ((s.2.2.1.getD st1.2.1.toNat []).getD (word.getD st1.2.2.toNat 0).toNat 0)), (11, .sl (.int .i64) word), (12, .int .i64 (word.length : Int)), (13, .int .i64 (st1.2.2 + 1))] [(3, .box 24 [.int .i64 s.1, .int .i64 s.2.1, .sl (.sl (.int .i64)) s.2.2.1, .sl (.sl (.int .i64)) s.2.2.2]), (27, .arr 3 (.int .i64) (st1.1 ++ [((s.2.2.2.getD st1.2.1.toNat []).getD (word.getD st1.2.2.toNat 0).toNat 0)]))] ?_
    obtain rfl := Option.some.inj h
    exact ⟨_, rfl, zL [] [] []⟩
   ·refine AW.exit ?_
    refine athen_e ?_
    obtain rfl := Option.some.inj h
    rw [← hd3 _ rfl] at ho2
    have h := ho2
    refine athen_e ?_
    refine ablock_s ?_
    refine athen_n ?_
    exact AW.weaken (zL [] [] []) (hk_linealref01_run_k1 _ h)

theorem hc_spec_machine_same (m : Int × Int × (List (List Int)) × (List (List Int))) (a : Int) (b : Int) {r : Bool} (h : spec_machine_same m a b = some r) : HC Try.prog 67 [] [.agg [.int .i64 m.1, .int .i64 m.2.1, .sl (.sl (.int .i64)) m.2.2.1, .sl (.sl (.int .i64)) m.2.2.2], .int .i64 a, .int .i64 b] [] (.bool r) := by
 unfold spec_machine_same at h
 refine zH Try.func67 [.tmp 6] 23 ?_
 refine zo ?_
 refine zB [(1, .int .i64 a), (2, .int .i64 b), (3, .bp 3 0)] [(3, .box 60 [.int .i64 m.1, .int .i64 m.2.1, .sl (.sl (.int .i64)) m.2.2.1, .sl (.sl (.int .i64)) m.2.2.2])] ?_
 refine AW.seq ?_
 refine zo ?_
 refine zB [(1, .int .i64 a), (2, .int .i64 b), (3, .bp 3 0), (11, .bool (decide (a = b)))] [(3, .box 60 [.int .i64 m.1, .int .i64 m.2.1, .sl (.sl (.int .i64)) m.2.2.1, .sl (.sl (.int .i64)) m.2.2.2])] ?_
 refine zQ h (fun hb1 h => ?_) (fun hb1 h => ?_)
 ·refine zo ?_
  refine zB [(6, .bool true)] [] ?_
  refine zr ?_
  obtain rfl := Option.some.inj h
  exact zR [] [] []
 ·refine zk ?_
  refine zo ?_
  refine zS 5 [(13, .agg [.int .i64 m.1, .int .i64 m.2.1, .sl (.sl (.int .i64)) m.2.2.1, .sl (.sl (.int .i64)) m.2.2.2]), (14, .agg [.int .i64 m.1, .int .i64 m.2.1, .sl (.sl (.int .i64)) m.2.2.1, .sl (.sl (.int .i64)) m.2.2.2]), (17, .agg [.int .i64 a, .int .i64 b])] [] ?_
  obtain ⟨v0, hv2, h⟩ := Option.bind_eq_some_iff.1 h
  refine zC [] [] (hc_spec_apart m m (a, b) hv2) [(18, .tup [.own 28000, .bool v0.2])] [(28000, .arr 3 (.int .i64) v0.1)] ?_
  refine zB [(8, .bool v0.2)] [] ?_
  refine zo ?_
  refine zB [(6, .bool (!v0.2))] [] ?_
  refine AW.ret ?_
  obtain rfl := Option.some.inj h
  exact zR [] [] []

theorem hc_spec_machine_ways (m : Int × Int × (List (List Int)) × (List (List Int))) {r : Unit} (h : spec_machine_ways m = some r) : HC Try.prog 75 [] [.agg [.int .i64 m.1, .int .i64 m.2.1, .sl (.sl (.int .i64)) m.2.2.1, .sl (.sl (.int .i64)) m.2.2.2]] [(2000, .box 60 [.int .i64 m.1, .int .i64 m.2.1, .sl (.sl (.int .i64)) m.2.2.1, .sl (.sl (.int .i64)) m.2.2.2])] (.fn (.func 98) [] [.bp 2000 0]) := by
 unfold spec_machine_ways at h
 refine zH Try.func75 [.tmp 2] 4 ?_
 refine zo ?_
 refine zB [(1, .bp 1 0)] [(1, .box 60 [.int .i64 m.1, .int .i64 m.2.1, .sl (.sl (.int .i64)) m.2.2.1, .sl (.sl (.int .i64)) m.2.2.2])] ?_
 refine zo ?_
 refine zB [(2, .fn (.func 98) [] [.bp 1 0])] [(1, .box 60 [.int .i64 m.1, .int .i64 m.2.1, .sl (.sl (.int .i64)) m.2.2.1, .sl (.sl (.int .i64)) m.2.2.2])] ?_
 refine AW.ret ?_
 obtain rfl := Option.some.inj h
 exact zR [] [] [(2000, 1)]

theorem ic_spec_machine_ways_1 {S R : Type} (a1 : Int × Int × (List (List Int)) × (List (List Int))) (yl : Int × (List Int) → S → Option (Step S R)) (s0 : S) {r : Sum S R} (h : spec_machine_ways_1 S R a1 yl s0 = some r) : IC Try.prog 98 [(1000, .box 60 [.int .i64 a1.1, .int .i64 a1.2.1, .sl (.sl (.int .i64)) a1.2.2.1, .sl (.sl (.int .i64)) a1.2.2.2])] [.bp 1000 0] (fun (y : Int × (List Int)) => [.int .i64 y.1, .sl (.int .i64) y.2]) yl s0 r := by
 unfold spec_machine_ways_1 at h
 refine IC.of_body Try.func98 rfl (by kernel_rfl) rfl (nt := 17) rfl (by decide) (by simp) ?_
 intro Γ Γx lp hΓ hΓx hY
 refine zo ?_
 refine zB [(1, .bp 1000 0), (2, .bp 2 0)] [(2, .box 103 [.fn (.yield lp) [] []]), (1000, .box 60 [.int .i64 a1.1, .int .i64 a1.2.1, .sl (.sl (.int .i64)) a1.2.2.1, .sl (.sl (.int .i64)) a1.2.2.2])] ?_
 refine zo ?_
 refine zS 3 [(2, .bp 2 0), (5, .agg [.int .i64 a1.1, .int .i64 a1.2.1, .sl (.sl (.int .i64)) a1.2.2.1, .sl (.sl (.int .i64)) a1.2.2.2]), (6, .agg [.int .i64 a1.1, .int .i64 a1.2.1, .sl (.sl (.int .i64)) a1.2.2.1, .sl (.sl (.int .i64)) a1.2.2.2]), (7, .agg [.int .i64 0, .int .i64 0])] [(2, .box 103 [.fn (.yield lp) [] []]), (1000, .box 60 [.int .i64 a1.1, .int .i64 a1.2.1, .sl (.sl (.int .i64)) a1.2.2.1, .sl (.sl (.int .i64)) a1.2.2.2])] ?_
 obtain ⟨v0, hv1, h⟩ := Option.bind_eq_some_iff.1 h
 refine zC [] [] (hc_spec_walk a1 a1 (0, 0) hv1) [(2, .bp 2 0), (8, .fn (.func 100) [] [.bp 18000 0, .bp 18001 0, .bp 18002 0])] [(2, .box 103 [.fn (.yield lp) [] []]), (1000, .box 60 [.int .i64 a1.1, .int .i64 a1.2.1, .sl (.sl (.int .i64)) a1.2.2.1, .sl (.sl (.int .i64)) a1.2.2.2]), (18000, .box 75 [.int .i64 0, .int .i64 0]), (18001, .box 60 [.int .i64 a1.1, .int .i64 a1.2.1, .sl (.sl (.int .i64)) a1.2.2.1, .sl (.sl (.int .i64)) a1.2.2.2]), (18002, .box 60 [.int .i64 a1.1, .int .i64 a1.2.1, .sl (.sl (.int .i64)) a1.2.2.1, .sl (.sl (.int .i64)) a1.2.2.2])] ?_
 refine zB [(2, .bp 2 0), (8, .fn (.func 100) [] [.bp 18000 0, .bp 18001 0, .bp 18002 0])] [(2, .box 103 [.fn (.yield lp) [] []]), (1000, .box 60 [.int .i64 a1.1, .int .i64 a1.2.1, .sl (.sl (.int .i64)) a1.2.2.1, .sl (.sl (.int .i64)) a1.2.2.2]), (18000, .box 75 [.int .i64 0, .int .i64 0]), (18001, .box 60 [.int .i64 a1.1, .int .i64 a1.2.1, .sl (.sl (.int .i64)) a1.2.2.1, .sl (.sl (.int .i64)) a1.2.2.2]), (18002, .box 60 [.int .i64 a1.1, .int .i64 a1.2.1, .sl (.sl (.int .i64)) a1.2.2.1, .sl (.sl (.int .i64)) a1.2.2.2])] ?_
 refine AW.block ?_
 obtain ⟨x2, hx3, h⟩ := Option.bind_eq_some_iff.1 h
 refine AW.weaken (s' := ⟨fr [(2, .bp 2 0), (8, .fn (.func 100) [] [.bp 18000 0, .bp 18001 0, .bp 18002 0])], hpGet ([(18000, .box 75 [.int .i64 0, .int .i64 0]), (18001, .box 60 [.int .i64 a1.1, .int .i64 a1.2.1, .sl (.sl (.int .i64)) a1.2.2.1, .sl (.sl (.int .i64)) a1.2.2.2]), (18002, .box 60 [.int .i64 a1.1, .int .i64 a1.2.1, .sl (.sl (.int .i64)) a1.2.2.1, .sl (.sl (.int .i64)) a1.2.2.2])] ++ [(2, .box 103 [.fn (.yield lp) [] []]), (1000, .box 60 [.int .i64 a1.1, .int .i64 a1.2.1, .sl (.sl (.int .i64)) a1.2.2.1, .sl (.sl (.int .i64)) a1.2.2.2])]), (Γ s0)⟩) (zL [] [] []) ?_
 refine AW.rangeF (R := R) (l0 := [(2, .bp 2 0)]) (hI := [(18000, .box 75 [.int .i64 0, .int .i64 0]), (18001, .box 60 [.int .i64 a1.1, .int .i64 a1.2.1, .sl (.sl (.int .i64)) a1.2.2.1, .sl (.sl (.int .i64)) a1.2.2.2]), (18002, .box 60 [.int .i64 a1.1, .int .i64 a1.2.1, .sl (.sl (.int .i64)) a1.2.2.1, .sl (.sl (.int .i64)) a1.2.2.2])]) (h0 := fun (st1 : S) => [(2, .box 103 [.fn (.yield lp) [] []]), (1000, .box 60 [.int .i64 a1.1, .int .i64 a1.2.1, .sl (.sl (.int .i64)) a1.2.2.1, .sl (.sl (.int .i64)) a1.2.2.2])]) (gg := fun (st1 : S) => (Γ st1)) (hx0 := (fun (r1 : R) => [(2, .box 103 [.fn (.yield lp) [] []]), (1000, .box 60 [.int .i64 a1.1, .int .i64 a1.2.1, .sl (.sl (.int .i64)) a1.2.2.1, .sl (.sl (.int .i64)) a1.2.2.2])])) (gx := (fun (r1 : R) => (Γx r1))) (ex := (fun (r1 : R) => Exit.ret)) s0 [(18000, 1000), (18001, 1001), (18002, 1002)] [(1000, 18000), (1001, 18001), (1002, 18002)] [(2, 1900)] [(1900, 2)] (by decide) rfl (by first | exact (ic_spec_walk_1 (0, 0) a1 a1 (spec_machine_ways_1_y1 S R yl) s0 hx3) | simpa only [go_sem] using (ic_spec_walk_1 (0, 0) a1 a1 (spec_machine_ways_1_y1 S R yl) s0 hx3)) (by (simp only [go_sem]) <;> (with_reducible and_intros) <;> first | assumption | rfl | omega | (unfold maxLen; omega)) rfl rfl rfl (fun _ => rfl) rfl (fun _ => rfl) rfl (fun _ => rfl) (fun _ => rfl) (fun _ => rfl) (fun _ => rfl) rfl (fun _ _ => by first | rfl | (exact (hΓ _).trans (hΓ _).symm) | (exact (hΓx _).trans (hΓ _).symm)) (fun _ _ => by first | rfl | (exact (hΓ _).trans (hΓ _).symm) | (exact (hΓx _).trans (hΓ _).symm)) ?_ ?_
 ·intro lpy1 y1 st1 x4 h
  unfold spec_machine_ways_1_y1 at h
  refine zV [(2, .bp 1900 0), (9, .agg [.int .i64 y1.1.1, .int .i64 y1.1.2]), (10, .sl (.int .i64) y1.2)] [(1000, .box 60 [.int .i64 a1.1, .int .i64 a1.2.1, .sl (.sl (.int .i64)) a1.2.2.1, .sl (.sl (.int .i64)) a1.2.2.2]), (1900, .box 103 [.fn (.yield lp) [] []])] (Γ st1) ?_
  refine zo ?_
  refine zB [(2, .bp 1900 0), (3, .bp 3 0), (10, .sl (.int .i64) y1.2)] [(3, .box 75 [.int .i64 y1.1.1, .int .i64 y1.1.2]), (1000, .box 60 [.int .i64 a1.1, .int .i64 a1.2.1, .sl (.sl (.int .i64)) a1.2.2.1, .sl (.sl (.int .i64)) a1.2.2.2]), (1900, .box 103 [.fn (.yield lp) [] []])] ?_
  refine AW.ops ?_
  refine zA [(2, .bp 1900 0), (3, .bp 3 0), (4, .sl (.int .i64) y1.2)] [(3, .box 75 [.int .i64 y1.1.1, .int .i64 y1.1.2]), (1000, .box 60 [.int .i64 a1.1, .int .i64 a1.2.1, .sl (.sl (.int .i64)) a1.2.2.1, .sl (.sl (.int .i64)) a1.2.2.2]), (1900, .box 103 [.fn (.yield lp) [] []])] ?_
  refine And.intro rfl ?_
  refine AW.block ?_
  refine zo ?_
  refine zS 4 [(2, .bp 1900 0), (11, .fn (.yield lp) [] []), (13, .int .i64 y1.1.1), (14, .sl (.int .i64) y1.2)] [(1000, .box 60 [.int .i64 a1.1, .int .i64 a1.2.1, .sl (.sl (.int .i64)) a1.2.2.1, .sl (.sl (.int .i64)) a1.2.2.2]), (1900, .box 103 [.fn (.yield lp) [] []])] ?_
  obtain ⟨x5, hx6, h⟩ := Option.bind_eq_some_iff.1 h
  refine yield_op rfl rfl rfl (by decide) _ rfl hY hΓ hΓx (y1.1.1, y1.2) [] (by (simp only [go_sem]) <;> (with_reducible and_intros) <;> first | assumption | rfl | omega | (unfold maxLen; omega)) hx6 ?_
  cases x5 with
  | next s =>
   try simp only at h
   refine zT [(2, .bp 1900 0), (15, .bool true)] [(1000, .box 60 [.int .i64 a1.1, .int .i64 a1.2.1, .sl (.sl (.int .i64)) a1.2.2.1, .sl (.sl (.int .i64)) a1.2.2.2]), (1900, .box 103 [.fn (.yield lp) [] []])] (Γ s) ?_
   refine zB [(2, .bp 1900 0), (16, .bool false)] [(1000, .box 60 [.int .i64 a1.1, .int .i64 a1.2.1, .sl (.sl (.int .i64)) a1.2.2.1, .sl (.sl (.int .i64)) a1.2.2.2]), (1900, .box 103 [.fn (.yield lp) [] []])] ?_
   refine AW.cond (b := false) rfl (fun hb7 => by cases hb7) (fun _ => ?_)
   refine zm ?_
   obtain rfl := Option.some.inj h
   exact rpost_next rfl [] [] [] rfl (by (simp only [go_sem]) <;> (with_reducible and_intros) <;> first | assumption | rfl | omega | (unfold maxLen; omega))
  | done e =>
   try simp only at h
   refine zT [(2, .bp 1900 0), (15, .bool false)] [(1000, .box 60 [.int .i64 a1.1, .int .i64 a1.2.1, .sl (.sl (.int .i64)) a1.2.2.1, .sl (.sl (.int .i64)) a1.2.2.2]), (1900, .box 103 [.fn (.yield lp) [] []])] (Γx e) ?_
   refine zB [(2, .bp 1900 0), (16, .bool true)] [(1000, .box 60 [.int .i64 a1.1, .int .i64 a1.2.1, .sl (.sl (.int .i64)) a1.2.2.1, .sl (.sl (.int .i64)) a1.2.2.2]), (1900, .box 103 [.fn (.yield lp) [] []])] ?_
   refine AW.cond (b := true) rfl (fun _ => ?_) (fun hb8 => by cases hb8)
   refine AW.ret ?_
   refine ablock_r ?_
   obtain rfl := Option.some.inj h
   exact rpost_ret rfl rfl [] [] [] rfl (by (simp only [go_sem]) <;> (with_reducible and_intros) <;> first | assumption | rfl | omega | (unfold maxLen; omega))
 ·cases x2 with
  | inl st1_2 =>
   try simp only at h
   refine ablock_n ?_
   obtain rfl := Option.some.inj h
   exact rfl
  | inr r1 =>
   try simp only at h
   refine ablock_r ?_
   obtain rfl := Option.some.inj h
   exact rfl

theorem hc_cmp_isNaN (x0 : Int) {r : Unit} (h : cmp_isNaN x0 = some r) : HC Try.prog 119 [] [.int .i64 x0] [] (.bool false) := by
 unfold cmp_isNaN at h
 refine zH Try.func119 [.tmp 2] 6 ?_
 refine zo ?_
 refine zB [(0, .int .i64 x0)] [] ?_
 refine zo ?_
 refine zB [(2, .bool false)] [] ?_
 refine AW.ret ?_
 obtain rfl := Option.some.inj h
 exact zR [] [] []

theorem hc_cmp_Less (x0 : Int) (y : Int) {r : Unit} (h : cmp_Less x0 y = some r) : HC Try.prog 109 [] [.int .i64 x0, .int .i64 y] [] (.bool (decide (x0 < y))) := by
 unfold cmp_Less at h
 refine zH Try.func109 [.tmp 4] 17 ?_
 refine zo ?_
 refine zB [(0, .int .i64 x0), (1, .int .i64 y)] [] ?_
 refine zo ?_
 refine zS 1 [(0, .int .i64 x0), (1, .int .i64 y), (5, .int .i64 x0)] [] ?_
 obtain ⟨v0, hv1, h⟩ := Option.bind_eq_some_iff.1 h
 refine zC [] [] (hc_cmp_isNaN x0 hv1) [(0, .int .i64 x0), (1, .int .i64 y), (6, .bool false)] [] ?_
 refine zS 5 [(0, .int .i64 x0), (1, .int .i64 y), (11, .bool false)] [] ?_
 refine zS 5 [(16, .bool (decide (x0 < y)))] [] ?_
 refine zB [(4, .bool (decide (x0 < y)))] [] ?_
 refine AW.ret ?_
 obtain rfl := Option.some.inj h
 exact zR [] [] []

end Go.Proofs.Ytcgflignbhmoaaa
