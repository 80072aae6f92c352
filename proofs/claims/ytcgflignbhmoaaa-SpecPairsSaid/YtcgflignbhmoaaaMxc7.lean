/-
  Made by wip/tool/dc.py out of the print of the program: contracts.
-/
import Derived.Test.YtcgflignbhmoaaaQp
import Derived.Test.YtcgflignbhmoaaaShs
import Derived.Test.YtcgflignbhmoaaaAvd
import Derived.Test.YtcgflignbhmoaaaMxc2
import Derived.Test.YtcgflignbhmoaaaMxc6
namespace Go.Proofs.Ytcgflignbhmoaaa
open Go.RowKit

set_option linter.unusedSimpArgs false
set_option linter.unusedVariables false
set_option linter.constructorNameAsVariable false

set_option maxRecDepth 100000
set_option maxHeartbeats 2000000

theorem hc_spec_Both (s : Int × Int × (List (List Int)) × (List (List Int))) (t : Int × Int × (List (List Int)) × (List (List Int))) {r : Int × Int × (List (List Int)) × (List (List Int)) × Int} (h : spec_Both s t = some r) : HC Try.prog 42 [] [.agg [.int .i64 s.1, .int .i64 s.2.1, .sl (.sl (.int .i64)) s.2.2.1, .sl (.sl (.int .i64)) s.2.2.2], .agg [.int .i64 t.1, .int .i64 t.2.1, .sl (.sl (.int .i64)) t.2.2.1, .sl (.sl (.int .i64)) t.2.2.2]] [(2000, .arr 25 (.sl (.int .i64)) r.2.2.1), (2001, .arr 25 (.sl (.int .i64)) r.2.2.2.1)] (.tup [.agg [.int .i64 r.1, .int .i64 r.2.1, .own 2000, .own 2001], .int .i64 r.2.2.2.2]) := by
 unfold spec_Both at h
 refine zH Try.func42 [.cell 4 24, .tmp 5] 122 ?_
 refine zo ?_
 refine zB [(2, .bp 2 0), (3, .bp 3 0), (4, .bp 4 0)] [(2, .box 24 [.int .i64 s.1, .int .i64 s.2.1, .sl (.sl (.int .i64)) s.2.2.1, .sl (.sl (.int .i64)) s.2.2.2]), (3, .box 24 [.int .i64 t.1, .int .i64 t.2.1, .sl (.sl (.int .i64)) t.2.2.1, .sl (.sl (.int .i64)) t.2.2.2]), (4, .box 24 [.int .i64 0, .int .i64 0, .cv (.slice none 0 0), .cv (.slice none 0 0)])] ?_
 refine AW.seq ?_
 refine zo ?_
 refine zS 1 [(2, .bp 2 0), (3, .bp 3 0), (4, .bp 4 0), (14, .agg [.int .i64 s.1, .int .i64 s.2.1, .sl (.sl (.int .i64)) s.2.2.1, .sl (.sl (.int .i64)) s.2.2.2])] [(2, .box 24 [.int .i64 s.1, .int .i64 s.2.1, .sl (.sl (.int .i64)) s.2.2.1, .sl (.sl (.int .i64)) s.2.2.2]), (3, .box 24 [.int .i64 t.1, .int .i64 t.2.1, .sl (.sl (.int .i64)) t.2.2.1, .sl (.sl (.int .i64)) t.2.2.2]), (4, .box 24 [.int .i64 0, .int .i64 0, .cv (.slice none 0 0), .cv (.slice none 0 0)])] ?_
 obtain ⟨v0, hv1, h⟩ := Option.bind_eq_some_iff.1 h
 refine zC [] [] (hc_spec_Valid s hv1) [(2, .bp 2 0), (3, .bp 3 0), (4, .bp 4 0), (15, .bool v0)] [(2, .box 24 [.int .i64 s.1, .int .i64 s.2.1, .sl (.sl (.int .i64)) s.2.2.1, .sl (.sl (.int .i64)) s.2.2.2]), (3, .box 24 [.int .i64 t.1, .int .i64 t.2.1, .sl (.sl (.int .i64)) t.2.2.1, .sl (.sl (.int .i64)) t.2.2.2]), (4, .box 24 [.int .i64 0, .int .i64 0, .cv (.slice none 0 0), .cv (.slice none 0 0)])] ?_
 refine zS 2 [(2, .bp 2 0), (3, .bp 3 0), (4, .bp 4 0), (17, .bool (!v0))] [(2, .box 24 [.int .i64 s.1, .int .i64 s.2.1, .sl (.sl (.int .i64)) s.2.2.1, .sl (.sl (.int .i64)) s.2.2.2]), (3, .box 24 [.int .i64 t.1, .int .i64 t.2.1, .sl (.sl (.int .i64)) t.2.2.1, .sl (.sl (.int .i64)) t.2.2.2]), (4, .box 24 [.int .i64 0, .int .i64 0, .cv (.slice none 0 0), .cv (.slice none 0 0)])] ?_
 rcases zI h with ⟨hb2, h⟩ | ⟨hb2, h⟩
 ·refine zB [(2, .bp 2 0), (3, .bp 3 0), (4, .bp 4 0), (21, .bool true)] [(2, .box 24 [.int .i64 s.1, .int .i64 s.2.1, .sl (.sl (.int .i64)) s.2.2.1, .sl (.sl (.int .i64)) s.2.2.2]), (3, .box 24 [.int .i64 t.1, .int .i64 t.2.1, .sl (.sl (.int .i64)) t.2.2.1, .sl (.sl (.int .i64)) t.2.2.2]), (4, .box 24 [.int .i64 0, .int .i64 0, .cv (.slice none 0 0), .cv (.slice none 0 0)])] ?_
  refine AW.cond (b := true) rfl (fun _ => ?_) (fun hb3 => by cases hb3)
  refine zo ?_
  refine zB [(4, .bp 4 0), (5, .int .i64 10)] [(4, .box 24 [.int .i64 0, .int .i64 0, .cv (.slice none 0 0), .cv (.slice none 0 0)])] ?_
  refine zr ?_
  obtain rfl := Option.some.inj h
  exact zR [] [2000, 2001] []
 ·refine zS 1 [(2, .bp 2 0), (3, .bp 3 0), (4, .bp 4 0), (17, .bool false), (18, .agg [.int .i64 t.1, .int .i64 t.2.1, .sl (.sl (.int .i64)) t.2.2.1, .sl (.sl (.int .i64)) t.2.2.2])] [(2, .box 24 [.int .i64 s.1, .int .i64 s.2.1, .sl (.sl (.int .i64)) s.2.2.1, .sl (.sl (.int .i64)) s.2.2.2]), (3, .box 24 [.int .i64 t.1, .int .i64 t.2.1, .sl (.sl (.int .i64)) t.2.2.1, .sl (.sl (.int .i64)) t.2.2.2]), (4, .box 24 [.int .i64 0, .int .i64 0, .cv (.slice none 0 0), .cv (.slice none 0 0)])] ?_
  obtain ⟨v0_2, hv4, h⟩ := Option.bind_eq_some_iff.1 h
  refine zG [] [] (hc_spec_Valid t hv4) [(2, .bp 2 0), (3, .bp 3 0), (4, .bp 4 0), (17, .bool false), (19, .bool v0_2)] [(2, .box 24 [.int .i64 s.1, .int .i64 s.2.1, .sl (.sl (.int .i64)) s.2.2.1, .sl (.sl (.int .i64)) s.2.2.2]), (3, .box 24 [.int .i64 t.1, .int .i64 t.2.1, .sl (.sl (.int .i64)) t.2.2.1, .sl (.sl (.int .i64)) t.2.2.2]), (4, .box 24 [.int .i64 0, .int .i64 0, .cv (.slice none 0 0), .cv (.slice none 0 0)])] ?_
  refine zB [(2, .bp 2 0), (3, .bp 3 0), (4, .bp 4 0), (21, .bool (!v0_2))] [(2, .box 24 [.int .i64 s.1, .int .i64 s.2.1, .sl (.sl (.int .i64)) s.2.2.1, .sl (.sl (.int .i64)) s.2.2.2]), (3, .box 24 [.int .i64 t.1, .int .i64 t.2.1, .sl (.sl (.int .i64)) t.2.2.1, .sl (.sl (.int .i64)) t.2.2.2]), (4, .box 24 [.int .i64 0, .int .i64 0, .cv (.slice none 0 0), .cv (.slice none 0 0)])] ?_
  refine zQ h (fun hb5 h => ?_) (fun hb5 h => ?_)
  ·refine zo ?_
   refine zB [(4, .bp 4 0), (5, .int .i64 10)] [(4, .box 24 [.int .i64 0, .int .i64 0, .cv (.slice none 0 0), .cv (.slice none 0 0)])] ?_
   refine zr ?_
   obtain rfl := Option.some.inj h
   exact zR [] [2000, 2001] []
  ·refine zk ?_
   refine zo ?_
   obtain ⟨c6, h⟩ := ck_some.1 h
   obtain ⟨c7, h⟩ := ck_some.1 h
   refine zB [(2, .bp 2 0), (3, .bp 3 0), (4, .bp 4 0), (6, .bp 6 0)] [(2, .box 24 [.int .i64 s.1, .int .i64 s.2.1, .sl (.sl (.int .i64)) s.2.2.1, .sl (.sl (.int .i64)) s.2.2.2]), (3, .box 24 [.int .i64 t.1, .int .i64 t.2.1, .sl (.sl (.int .i64)) t.2.2.1, .sl (.sl (.int .i64)) t.2.2.2]), (4, .box 24 [.int .i64 0, .int .i64 0, .cv (.slice none 0 0), .cv (.slice none 0 0)]), (6, .box 24 [.int .i64 (s.1 * t.1), .int .i64 (s.2.1 + t.2.1), .cv (.slice none 0 0), .cv (.slice none 0 0)])] ?_
   refine AW.seq ?_
   refine zo ?_
   refine zS 4 [(2, .bp 2 0), (3, .bp 3 0), (4, .bp 4 0), (6, .bp 6 0), (37, .bool (decide (8 < (s.1 * t.1))))] [(2, .box 24 [.int .i64 s.1, .int .i64 s.2.1, .sl (.sl (.int .i64)) s.2.2.1, .sl (.sl (.int .i64)) s.2.2.2]), (3, .box 24 [.int .i64 t.1, .int .i64 t.2.1, .sl (.sl (.int .i64)) t.2.2.1, .sl (.sl (.int .i64)) t.2.2.2]), (4, .box 24 [.int .i64 0, .int .i64 0, .cv (.slice none 0 0), .cv (.slice none 0 0)]), (6, .box 24 [.int .i64 (s.1 * t.1), .int .i64 (s.2.1 + t.2.1), .cv (.slice none 0 0), .cv (.slice none 0 0)])] ?_
   rcases zI h with ⟨hb8, h⟩ | ⟨hb8, h⟩
   ·refine zB [(2, .bp 2 0), (3, .bp 3 0), (4, .bp 4 0), (6, .bp 6 0), (41, .bool true)] [(2, .box 24 [.int .i64 s.1, .int .i64 s.2.1, .sl (.sl (.int .i64)) s.2.2.1, .sl (.sl (.int .i64)) s.2.2.2]), (3, .box 24 [.int .i64 t.1, .int .i64 t.2.1, .sl (.sl (.int .i64)) t.2.2.1, .sl (.sl (.int .i64)) t.2.2.2]), (4, .box 24 [.int .i64 0, .int .i64 0, .cv (.slice none 0 0), .cv (.slice none 0 0)]), (6, .box 24 [.int .i64 (s.1 * t.1), .int .i64 (s.2.1 + t.2.1), .cv (.slice none 0 0), .cv (.slice none 0 0)])] ?_
    refine AW.cond (b := true) rfl (fun _ => ?_) (fun hb9 => by cases hb9)
    refine zo ?_
    refine zB [(4, .bp 4 0), (5, .int .i64 4)] [(4, .box 24 [.int .i64 0, .int .i64 0, .cv (.slice none 0 0), .cv (.slice none 0 0)])] ?_
    refine zr ?_
    obtain rfl := Option.some.inj h
    exact zR [] [2000, 2001] []
   ·refine zB [(2, .bp 2 0), (3, .bp 3 0), (4, .bp 4 0), (6, .bp 6 0), (41, .bool (decide (4 < (s.2.1 + t.2.1))))] [(2, .box 24 [.int .i64 s.1, .int .i64 s.2.1, .sl (.sl (.int .i64)) s.2.2.1, .sl (.sl (.int .i64)) s.2.2.2]), (3, .box 24 [.int .i64 t.1, .int .i64 t.2.1, .sl (.sl (.int .i64)) t.2.2.1, .sl (.sl (.int .i64)) t.2.2.2]), (4, .box 24 [.int .i64 0, .int .i64 0, .cv (.slice none 0 0), .cv (.slice none 0 0)]), (6, .box 24 [.int .i64 (s.1 * t.1), .int .i64 (s.2.1 + t.2.1), .cv (.slice none 0 0), .cv (.slice none 0 0)])] ?_
    refine zQ h (fun hb10 h => ?_) (fun hb10 h => ?_)
    ·refine zo ?_
     refine zB [(4, .bp 4 0), (5, .int .i64 4)] [(4, .box 24 [.int .i64 0, .int .i64 0, .cv (.slice none 0 0), .cv (.slice none 0 0)])] ?_
     refine zr ?_
     obtain rfl := Option.some.inj h
     exact zR [] [2000, 2001] []
    ·refine zk ?_
     refine AW.have1 (fun b5_4 : (List (List Int)) × (List (List Int)) => spec_Both_k1 s t b5_4 = some r) (fun b5_4 => ⟨fr [(4, .bp 4 0), (6, .bp 6 0)], hpGet [(4, .box 24 [.int .i64 0, .int .i64 0, .cv (.slice none 0 0), .cv (.slice none 0 0)]), (6, .box 24 [.int .i64 (s.1 * t.1), .int .i64 (s.2.1 + t.2.1), .own 100, .own 117]), (100, .arr 25 (.sl (.int .i64)) b5_4.1), (117, .arr 25 (.sl (.int .i64)) b5_4.2)], gt⟩) (fun b5_4 h => ?_) (fun hk_spec_Both_k1 => ?_)
     ·as_aux_lemma =>
       unfold spec_Both_k1 at h
       refine zo ?_
       refine zB [(4, .bp 4 0), (5, .int .i64 0)] [(4, .box 24 [.int .i64 (s.1 * t.1), .int .i64 (s.2.1 + t.2.1), .own 100, .own 117]), (100, .arr 25 (.sl (.int .i64)) b5_4.1), (117, .arr 25 (.sl (.int .i64)) b5_4.2)] ?_
       refine AW.ret ?_
       obtain rfl := Option.some.inj h
       exact zR [] [] [(2000, 100), (2001, 117)]
     ·refine AW.seq ?_
      refine zo ?_
      refine zB [(2, .bp 2 0), (3, .bp 3 0), (4, .bp 4 0), (6, .bp 6 0), (44, .int .i64 s.1), (45, .int .i64 0)] [(2, .box 24 [.int .i64 s.1, .int .i64 s.2.1, .sl (.sl (.int .i64)) s.2.2.1, .sl (.sl (.int .i64)) s.2.2.2]), (3, .box 24 [.int .i64 t.1, .int .i64 t.2.1, .sl (.sl (.int .i64)) t.2.2.1, .sl (.sl (.int .i64)) t.2.2.2]), (4, .box 24 [.int .i64 0, .int .i64 0, .cv (.slice none 0 0), .cv (.slice none 0 0)]), (6, .box 24 [.int .i64 (s.1 * t.1), .int .i64 (s.2.1 + t.2.1), .cv (.slice none 0 0), .cv (.slice none 0 0)])] ?_
      refine AW.block ?_
      obtain ⟨rv15, hw11, ho12⟩ := Option.bind_eq_some_iff.1 h
      refine AW.loopO (spec_Both_b1 s t) (fun st1 => ⟨fr [(2, .bp 2 0), (3, .bp 3 0), (4, .bp 4 0), (6, .bp 6 0), (44, .int .i64 s.1), (45, .int .i64 st1.2.2)], hpGet [(2, .box 24 [.int .i64 s.1, .int .i64 s.2.1, .sl (.sl (.int .i64)) s.2.2.1, .sl (.sl (.int .i64)) s.2.2.2]), (3, .box 24 [.int .i64 t.1, .int .i64 t.2.1, .sl (.sl (.int .i64)) t.2.2.1, .sl (.sl (.int .i64)) t.2.2.2]), (4, .box 24 [.int .i64 0, .int .i64 0, .cv (.slice none 0 0), .cv (.slice none 0 0)]), (6, .box 24 [.int .i64 (s.1 * t.1), .int .i64 (s.2.1 + t.2.1), .own 100, .own 117]), (100, .arr 25 (.sl (.int .i64)) st1.1), (117, .arr 25 (.sl (.int .i64)) st1.2.1)], gt⟩) ([], [], 0) hw11 (zL [] [100, 117] []) ?_
      as_aux_lemma =>
       intro st1 x14 h hd13
       unfold spec_Both_b1 at h
       refine zo ?_
       refine zB [(2, .bp 2 0), (3, .bp 3 0), (4, .bp 4 0), (6, .bp 6 0), (44, .int .i64 s.1), (45, .int .i64 st1.2.2), (46, .bool (decide (st1.2.2 < s.1)))] [(2, .box 24 [.int .i64 s.1, .int .i64 s.2.1, .sl (.sl (.int .i64)) s.2.2.1, .sl (.sl (.int .i64)) s.2.2.2]), (3, .box 24 [.int .i64 t.1, .int .i64 t.2.1, .sl (.sl (.int .i64)) t.2.2.1, .sl (.sl (.int .i64)) t.2.2.2]), (4, .box 24 [.int .i64 0, .int .i64 0, .cv (.slice none 0 0), .cv (.slice none 0 0)]), (6, .box 24 [.int .i64 (s.1 * t.1), .int .i64 (s.2.1 + t.2.1), .own 100, .own 117]), (100, .arr 25 (.sl (.int .i64)) st1.1), (117, .arr 25 (.sl (.int .i64)) st1.2.1)] ?_
       refine AW.seq ?_
       refine zQ h (fun hb16 h => ?_) (fun hb16 h => ?_)
       ·refine zk ?_
        refine AW.have1 (fun b5_3 : (List (List Int)) × (List (List Int)) => spec_Both_k2 st1 b5_3 = some x14) (fun b5_3 => ⟨fr [(2, .bp 2 0), (3, .bp 3 0), (4, .bp 4 0), (6, .bp 6 0), (44, .int .i64 s.1), (45, .int .i64 st1.2.2)], hpGet [(2, .box 24 [.int .i64 s.1, .int .i64 s.2.1, .sl (.sl (.int .i64)) s.2.2.1, .sl (.sl (.int .i64)) s.2.2.2]), (3, .box 24 [.int .i64 t.1, .int .i64 t.2.1, .sl (.sl (.int .i64)) t.2.2.1, .sl (.sl (.int .i64)) t.2.2.2]), (4, .box 24 [.int .i64 0, .int .i64 0, .cv (.slice none 0 0), .cv (.slice none 0 0)]), (6, .box 24 [.int .i64 (s.1 * t.1), .int .i64 (s.2.1 + t.2.1), .own 100, .own 117]), (100, .arr 25 (.sl (.int .i64)) b5_3.1), (117, .arr 25 (.sl (.int .i64)) b5_3.2)], gt⟩) (fun b5_3 h => ?_) (fun hk_spec_Both_k2 => ?_)
        ·as_aux_lemma =>
          unfold spec_Both_k2 at h
          refine AW.ops ?_
          obtain ⟨c17, h⟩ := ck_some.1 h
          refine zA [(2, .bp 2 0), (3, .bp 3 0), (4, .bp 4 0), (6, .bp 6 0), (44, .int .i64 s.1), (45, .int .i64 (st1.2.2 + 1))] [(2, .box 24 [.int .i64 s.1, .int .i64 s.2.1, .sl (.sl (.int .i64)) s.2.2.1, .sl (.sl (.int .i64)) s.2.2.2]), (3, .box 24 [.int .i64 t.1, .int .i64 t.2.1, .sl (.sl (.int .i64)) t.2.2.1, .sl (.sl (.int .i64)) t.2.2.2]), (4, .box 24 [.int .i64 0, .int .i64 0, .cv (.slice none 0 0), .cv (.slice none 0 0)]), (6, .box 24 [.int .i64 (s.1 * t.1), .int .i64 (s.2.1 + t.2.1), .own 100, .own 117]), (100, .arr 25 (.sl (.int .i64)) b5_3.1), (117, .arr 25 (.sl (.int .i64)) b5_3.2)] ?_
          obtain rfl := Option.some.inj h
          exact ⟨_, rfl, zL [] [] []⟩
        ·refine AW.seq ?_
         refine AW.block ?_
         refine zo ?_
         refine zB [(2, .bp 2 0), (3, .bp 3 0), (4, .bp 4 0), (6, .bp 6 0), (7, .int .i64 st1.2.2), (44, .int .i64 s.1), (45, .int .i64 st1.2.2)] [(2, .box 24 [.int .i64 s.1, .int .i64 s.2.1, .sl (.sl (.int .i64)) s.2.2.1, .sl (.sl (.int .i64)) s.2.2.2]), (3, .box 24 [.int .i64 t.1, .int .i64 t.2.1, .sl (.sl (.int .i64)) t.2.2.1, .sl (.sl (.int .i64)) t.2.2.2]), (4, .box 24 [.int .i64 0, .int .i64 0, .cv (.slice none 0 0), .cv (.slice none 0 0)]), (6, .box 24 [.int .i64 (s.1 * t.1), .int .i64 (s.2.1 + t.2.1), .own 100, .own 117]), (100, .arr 25 (.sl (.int .i64)) st1.1), (117, .arr 25 (.sl (.int .i64)) st1.2.1)] ?_
         refine zo ?_
         refine zB [(2, .bp 2 0), (3, .bp 3 0), (4, .bp 4 0), (6, .bp 6 0), (7, .int .i64 st1.2.2), (44, .int .i64 s.1), (45, .int .i64 st1.2.2), (49, .int .i64 t.1), (50, .int .i64 0)] [(2, .box 24 [.int .i64 s.1, .int .i64 s.2.1, .sl (.sl (.int .i64)) s.2.2.1, .sl (.sl (.int .i64)) s.2.2.2]), (3, .box 24 [.int .i64 t.1, .int .i64 t.2.1, .sl (.sl (.int .i64)) t.2.2.1, .sl (.sl (.int .i64)) t.2.2.2]), (4, .box 24 [.int .i64 0, .int .i64 0, .cv (.slice none 0 0), .cv (.slice none 0 0)]), (6, .box 24 [.int .i64 (s.1 * t.1), .int .i64 (s.2.1 + t.2.1), .own 100, .own 117]), (100, .arr 25 (.sl (.int .i64)) st1.1), (117, .arr 25 (.sl (.int .i64)) st1.2.1)] ?_
         refine AW.block ?_
         obtain ⟨rv22, hw18, ho19⟩ := Option.bind_eq_some_iff.1 h
         refine AW.loopO (spec_Both_b2 s t st1) (fun st2 => ⟨fr [(2, .bp 2 0), (3, .bp 3 0), (4, .bp 4 0), (6, .bp 6 0), (7, .int .i64 st1.2.2), (44, .int .i64 s.1), (45, .int .i64 st1.2.2), (49, .int .i64 t.1), (50, .int .i64 st2.2.2)], hpGet [(2, .box 24 [.int .i64 s.1, .int .i64 s.2.1, .sl (.sl (.int .i64)) s.2.2.1, .sl (.sl (.int .i64)) s.2.2.2]), (3, .box 24 [.int .i64 t.1, .int .i64 t.2.1, .sl (.sl (.int .i64)) t.2.2.1, .sl (.sl (.int .i64)) t.2.2.2]), (4, .box 24 [.int .i64 0, .int .i64 0, .cv (.slice none 0 0), .cv (.slice none 0 0)]), (6, .box 24 [.int .i64 (s.1 * t.1), .int .i64 (s.2.1 + t.2.1), .own 100, .own 117]), (100, .arr 25 (.sl (.int .i64)) st2.1), (117, .arr 25 (.sl (.int .i64)) st2.2.1)], gt⟩) (st1.1, st1.2.1, 0) hw18 (zL [] [] []) ?_
         as_aux_lemma =>
          intro st2 x21 h hd20
          unfold spec_Both_b2 at h
          refine zo ?_
          refine zB [(2, .bp 2 0), (3, .bp 3 0), (4, .bp 4 0), (6, .bp 6 0), (7, .int .i64 st1.2.2), (44, .int .i64 s.1), (45, .int .i64 st1.2.2), (49, .int .i64 t.1), (50, .int .i64 st2.2.2), (51, .bool (decide (st2.2.2 < t.1)))] [(2, .box 24 [.int .i64 s.1, .int .i64 s.2.1, .sl (.sl (.int .i64)) s.2.2.1, .sl (.sl (.int .i64)) s.2.2.2]), (3, .box 24 [.int .i64 t.1, .int .i64 t.2.1, .sl (.sl (.int .i64)) t.2.2.1, .sl (.sl (.int .i64)) t.2.2.2]), (4, .box 24 [.int .i64 0, .int .i64 0, .cv (.slice none 0 0), .cv (.slice none 0 0)]), (6, .box 24 [.int .i64 (s.1 * t.1), .int .i64 (s.2.1 + t.2.1), .own 100, .own 117]), (100, .arr 25 (.sl (.int .i64)) st2.1), (117, .arr 25 (.sl (.int .i64)) st2.2.1)] ?_
          refine AW.seq ?_
          refine zQ h (fun hb23 h => ?_) (fun hb23 h => ?_)
          ·refine zk ?_
           refine AW.have1 (fun b5_2 : (List (List Int)) × (List (List Int)) => spec_Both_k3 st2 b5_2 = some x21) (fun b5_2 => ⟨fr [(2, .bp 2 0), (3, .bp 3 0), (4, .bp 4 0), (6, .bp 6 0), (7, .int .i64 st1.2.2), (44, .int .i64 s.1), (45, .int .i64 st1.2.2), (49, .int .i64 t.1), (50, .int .i64 st2.2.2)], hpGet [(2, .box 24 [.int .i64 s.1, .int .i64 s.2.1, .sl (.sl (.int .i64)) s.2.2.1, .sl (.sl (.int .i64)) s.2.2.2]), (3, .box 24 [.int .i64 t.1, .int .i64 t.2.1, .sl (.sl (.int .i64)) t.2.2.1, .sl (.sl (.int .i64)) t.2.2.2]), (4, .box 24 [.int .i64 0, .int .i64 0, .cv (.slice none 0 0), .cv (.slice none 0 0)]), (6, .box 24 [.int .i64 (s.1 * t.1), .int .i64 (s.2.1 + t.2.1), .own 100, .own 117]), (100, .arr 25 (.sl (.int .i64)) b5_2.1), (117, .arr 25 (.sl (.int .i64)) b5_2.2)], gt⟩) (fun b5_2 h => ?_) (fun hk_spec_Both_k3 => ?_)
           ·as_aux_lemma =>
             unfold spec_Both_k3 at h
             refine AW.ops ?_
             obtain ⟨c24, h⟩ := ck_some.1 h
             refine zA [(2, .bp 2 0), (3, .bp 3 0), (4, .bp 4 0), (6, .bp 6 0), (7, .int .i64 st1.2.2), (44, .int .i64 s.1), (45, .int .i64 st1.2.2), (49, .int .i64 t.1), (50, .int .i64 (st2.2.2 + 1))] [(2, .box 24 [.int .i64 s.1, .int .i64 s.2.1, .sl (.sl (.int .i64)) s.2.2.1, .sl (.sl (.int .i64)) s.2.2.2]), (3, .box 24 [.int .i64 t.1, .int .i64 t.2.1, .sl (.sl (.int .i64)) t.2.2.1, .sl (.sl (.int .i64)) t.2.2.2]), (4, .box 24 [.int .i64 0, .int .i64 0, .cv (.slice none 0 0), .cv (.slice none 0 0)]), (6, .box 24 [.int .i64 (s.1 * t.1), .int .i64 (s.2.1 + t.2.1), .own 100, .own 117]), (100, .arr 25 (.sl (.int .i64)) b5_2.1), (117, .arr 25 (.sl (.int .i64)) b5_2.2)] ?_
             obtain rfl := Option.some.inj h
             exact ⟨_, rfl, zL [] [] []⟩
           ·refine AW.seq ?_
            refine AW.block ?_
            refine zo ?_
            refine zB [(2, .bp 2 0), (3, .bp 3 0), (4, .bp 4 0), (6, .bp 6 0), (7, .int .i64 st1.2.2), (8, .int .i64 st2.2.2), (44, .int .i64 s.1), (45, .int .i64 st1.2.2), (49, .int .i64 t.1), (50, .int .i64 st2.2.2)] [(2, .box 24 [.int .i64 s.1, .int .i64 s.2.1, .sl (.sl (.int .i64)) s.2.2.1, .sl (.sl (.int .i64)) s.2.2.2]), (3, .box 24 [.int .i64 t.1, .int .i64 t.2.1, .sl (.sl (.int .i64)) t.2.2.1, .sl (.sl (.int .i64)) t.2.2.2]), (4, .box 24 [.int .i64 0, .int .i64 0, .cv (.slice none 0 0), .cv (.slice none 0 0)]), (6, .box 24 [.int .i64 (s.1 * t.1), .int .i64 (s.2.1 + t.2.1), .own 100, .own 117]), (100, .arr 25 (.sl (.int .i64)) st2.1), (117, .arr 25 (.sl (.int .i64)) st2.2.1)] ?_
            refine zo ?_
            obtain ⟨c25, h⟩ := ck_some.1 h
            obtain ⟨c26, h⟩ := ck_some.1 h
            refine zB [(2, .bp 2 0), (3, .bp 3 0), (4, .bp 4 0), (6, .bp 6 0), (7, .int .i64 st1.2.2), (8, .int .i64 st2.2.2), (9, .own 55), (44, .int .i64 s.1), (45, .int .i64 st1.2.2), (49, .int .i64 t.1), (50, .int .i64 st2.2.2)] [(2, .box 24 [.int .i64 s.1, .int .i64 s.2.1, .sl (.sl (.int .i64)) s.2.2.1, .sl (.sl (.int .i64)) s.2.2.2]), (3, .box 24 [.int .i64 t.1, .int .i64 t.2.1, .sl (.sl (.int .i64)) t.2.2.1, .sl (.sl (.int .i64)) t.2.2.2]), (4, .box 24 [.int .i64 0, .int .i64 0, .cv (.slice none 0 0), .cv (.slice none 0 0)]), (6, .box 24 [.int .i64 (s.1 * t.1), .int .i64 (s.2.1 + t.2.1), .own 100, .own 117]), (55, .arr 3 (.int .i64) (List.replicate 0 (0 : Int))), (100, .arr 25 (.sl (.int .i64)) st2.1), (117, .arr 25 (.sl (.int .i64)) st2.2.1)] ?_
            refine AW.have1 (fun b4 : (List Int) => spec_Both_k4 s t st1 st2 b4 = some x21) (fun b4 => ⟨fr [(2, .bp 2 0), (3, .bp 3 0), (4, .bp 4 0), (6, .bp 6 0), (7, .int .i64 st1.2.2), (8, .int .i64 st2.2.2), (9, .own 55), (44, .int .i64 s.1), (45, .int .i64 st1.2.2), (49, .int .i64 t.1), (50, .int .i64 st2.2.2)], hpGet [(2, .box 24 [.int .i64 s.1, .int .i64 s.2.1, .sl (.sl (.int .i64)) s.2.2.1, .sl (.sl (.int .i64)) s.2.2.2]), (3, .box 24 [.int .i64 t.1, .int .i64 t.2.1, .sl (.sl (.int .i64)) t.2.2.1, .sl (.sl (.int .i64)) t.2.2.2]), (4, .box 24 [.int .i64 0, .int .i64 0, .cv (.slice none 0 0), .cv (.slice none 0 0)]), (6, .box 24 [.int .i64 (s.1 * t.1), .int .i64 (s.2.1 + t.2.1), .own 100, .own 117]), (55, .arr 3 (.int .i64) b4), (100, .arr 25 (.sl (.int .i64)) st2.1), (117, .arr 25 (.sl (.int .i64)) st2.2.1)], gt⟩) (fun b4 h => ?_) (fun hk_spec_Both_k4 => ?_)
            ·as_aux_lemma =>
              unfold spec_Both_k4 at h
              refine AW.have1 (fun b5 : (List Int) => spec_Both_k5 s t st1 st2 b5 = some x21) (fun b5 => ⟨fr [(2, .bp 2 0), (3, .bp 3 0), (4, .bp 4 0), (6, .bp 6 0), (7, .int .i64 st1.2.2), (8, .int .i64 st2.2.2), (9, .own 55), (44, .int .i64 s.1), (45, .int .i64 st1.2.2), (49, .int .i64 t.1), (50, .int .i64 st2.2.2)], hpGet [(2, .box 24 [.int .i64 s.1, .int .i64 s.2.1, .sl (.sl (.int .i64)) s.2.2.1, .sl (.sl (.int .i64)) s.2.2.2]), (3, .box 24 [.int .i64 t.1, .int .i64 t.2.1, .sl (.sl (.int .i64)) t.2.2.1, .sl (.sl (.int .i64)) t.2.2.2]), (4, .box 24 [.int .i64 0, .int .i64 0, .cv (.slice none 0 0), .cv (.slice none 0 0)]), (6, .box 24 [.int .i64 (s.1 * t.1), .int .i64 (s.2.1 + t.2.1), .own 100, .own 117]), (55, .arr 3 (.int .i64) b5), (100, .arr 25 (.sl (.int .i64)) st2.1), (117, .arr 25 (.sl (.int .i64)) st2.2.1)], gt⟩) (fun b5 h => ?_) (fun hk_spec_Both_k5 => ?_)
              ·as_aux_lemma =>
                unfold spec_Both_k5 at h
                refine zo ?_
                obtain ⟨c27, h⟩ := ck_some.1 h
                refine zB [(2, .bp 2 0), (3, .bp 3 0), (4, .bp 4 0), (6, .bp 6 0), (7, .int .i64 st1.2.2), (8, .int .i64 st2.2.2), (44, .int .i64 s.1), (45, .int .i64 st1.2.2), (49, .int .i64 t.1), (50, .int .i64 st2.2.2)] [(2, .box 24 [.int .i64 s.1, .int .i64 s.2.1, .sl (.sl (.int .i64)) s.2.2.1, .sl (.sl (.int .i64)) s.2.2.2]), (3, .box 24 [.int .i64 t.1, .int .i64 t.2.1, .sl (.sl (.int .i64)) t.2.2.1, .sl (.sl (.int .i64)) t.2.2.2]), (4, .box 24 [.int .i64 0, .int .i64 0, .cv (.slice none 0 0), .cv (.slice none 0 0)]), (6, .box 24 [.int .i64 (s.1 * t.1), .int .i64 (s.2.1 + t.2.1), .own 100, .own 117]), (100, .arr 25 (.sl (.int .i64)) (st2.1 ++ [b5])), (117, .arr 25 (.sl (.int .i64)) st2.2.1)] ?_
                refine AW.draw tab_ok mixed_ok [(12, [114]), (13, [125000]), (14, [116, 125000]), (15, [117]), (17, [6])] [(0, [6, 100, 117]), (1, [6, 100, 117, 1000000100, 1000000117]), (100017, [])] (by decide) (lex_fast (by kernel_rfl)) ?_
                as_aux_lemma =>
                 obtain ⟨c29, h⟩ := ck_some.1 h
                 obtain ⟨c30, h⟩ := ck_some.1 h
                 refine adops_cut 6 (fun K' hK28 => ?_)
                 try dsimp only [List.drop_succ_cons, List.drop_zero, List.take_succ_cons, List.take_zero]
                 simp only [go_sem, hb2, hb5, hb8, hb10, hb16, hb23]
                 repeat with_reducible refine zN ?_
                 refine hK28 _ ?_
                 as_aux_lemma =>
                  obtain ⟨c32, h⟩ := ck_some.1 h
                  obtain ⟨c33, h⟩ := ck_some.1 h
                  refine adops_cut 6 (fun K' hK31 => ?_)
                  try dsimp only [List.drop_succ_cons, List.drop_zero, List.take_succ_cons, List.take_zero]
                  simp only [go_sem, hb2, hb5, hb8, hb10, hb16, hb23]
                  repeat with_reducible refine zN ?_
                  refine hK31 _ ?_
                  as_aux_lemma =>
                   refine adops_cut 1 (fun K' hK34 => ?_)
                   try dsimp only [List.drop_succ_cons, List.drop_zero, List.take_succ_cons, List.take_zero]
                   simp only [go_sem, hb2, hb5, hb8, hb10, hb16, hb23]
                   repeat with_reducible refine zN ?_
                   refine hK34 _ ?_
                   as_aux_lemma =>
                    obtain ⟨v0_3, hv35, h⟩ := Option.bind_eq_some_iff.1 h
                    refine adops.call (by first | trivial | rfl) rfl rfl rfl (fun _ h => h) [114] [] (hc_slices_Concat [(s.2.2.2.getD st1.2.2.toNat []), (t.2.2.2.getD st2.2.2.toNat [])] hv35) rfl (by (simp only [go_sem, hb2, hb5, hb8, hb10, hb16, hb23]) <;> (with_reducible and_intros) <;> first | assumption | rfl | omega | (unfold maxLen; omega)) (by (simp only [go_sem, hb2, hb5, hb8, hb10, hb16, hb23]) <;> (with_reducible and_intros) <;> first | assumption | rfl | omega | (unfold maxLen; omega)) rfl ?_
                    obtain ⟨c37, h⟩ := ck_some.1 h
                    refine adops_cut 4 (fun K' hK36 => ?_)
                    try dsimp only [List.drop_succ_cons, List.drop_zero, List.take_succ_cons, List.take_zero]
                    simp only [go_sem, hb2, hb5, hb8, hb10, hb16, hb23]
                    repeat with_reducible refine zN ?_
                    refine hK36 _ ?_
                    refine adops_nil ?_
                    refine ablock_n ?_
                    refine athen_n ?_
                    refine zV [(2, .bp 2 0), (3, .bp 3 0), (4, .bp 4 0), (6, .bp 6 0), (7, .int .i64 st1.2.2), (44, .int .i64 s.1), (45, .int .i64 st1.2.2), (49, .int .i64 t.1), (50, .int .i64 st2.2.2)] [(2, .box 24 [.int .i64 s.1, .int .i64 s.2.1, .sl (.sl (.int .i64)) s.2.2.1, .sl (.sl (.int .i64)) s.2.2.2]), (3, .box 24 [.int .i64 t.1, .int .i64 t.2.1, .sl (.sl (.int .i64)) t.2.2.1, .sl (.sl (.int .i64)) t.2.2.2]), (4, .box 24 [.int .i64 0, .int .i64 0, .cv (.slice none 0 0), .cv (.slice none 0 0)]), (6, .box 24 [.int .i64 (s.1 * t.1), .int .i64 (s.2.1 + t.2.1), .own 100, .own 117]), (100, .arr 25 (.sl (.int .i64)) (st2.1 ++ [b5])), (117, .arr 25 (.sl (.int .i64)) (st2.2.1 ++ [v0_3]))] gt ?_
                    as_aux_lemma =>
                     exact AW.weaken (zL [] [] []) (hk_spec_Both_k3 _ h)
              ·refine AW.seq ?_
               refine zo ?_
               obtain ⟨c38, h⟩ := ck_some.1 h
               obtain ⟨c39, h⟩ := ck_some.1 h
               refine zB [(2, .bp 2 0), (3, .bp 3 0), (4, .bp 4 0), (6, .bp 6 0), (7, .int .i64 st1.2.2), (8, .int .i64 st2.2.2), (9, .own 55), (44, .int .i64 s.1), (45, .int .i64 st1.2.2), (49, .int .i64 t.1), (50, .int .i64 st2.2.2), (80, .sl (.int .i64) (t.2.2.1.getD st2.2.2.toNat [])), (81, .int .i64 ((t.2.2.1.getD st2.2.2.toNat []).length : Int)), (82, .int .i64 0)] [(2, .box 24 [.int .i64 s.1, .int .i64 s.2.1, .sl (.sl (.int .i64)) s.2.2.1, .sl (.sl (.int .i64)) s.2.2.2]), (3, .box 24 [.int .i64 t.1, .int .i64 t.2.1, .sl (.sl (.int .i64)) t.2.2.1, .sl (.sl (.int .i64)) t.2.2.2]), (4, .box 24 [.int .i64 0, .int .i64 0, .cv (.slice none 0 0), .cv (.slice none 0 0)]), (6, .box 24 [.int .i64 (s.1 * t.1), .int .i64 (s.2.1 + t.2.1), .own 100, .own 117]), (55, .arr 3 (.int .i64) b4), (100, .arr 25 (.sl (.int .i64)) st2.1), (117, .arr 25 (.sl (.int .i64)) st2.2.1)] ?_
               refine AW.block ?_
               obtain ⟨rv44, hw40, ho41⟩ := Option.bind_eq_some_iff.1 h
               refine AW.loopO (spec_Both_b4 t st1 st2) (fun st4 => ⟨fr [(2, .bp 2 0), (3, .bp 3 0), (4, .bp 4 0), (6, .bp 6 0), (7, .int .i64 st1.2.2), (8, .int .i64 st2.2.2), (9, .own 55), (44, .int .i64 s.1), (45, .int .i64 st1.2.2), (49, .int .i64 t.1), (50, .int .i64 st2.2.2), (80, .sl (.int .i64) (t.2.2.1.getD st2.2.2.toNat [])), (81, .int .i64 ((t.2.2.1.getD st2.2.2.toNat []).length : Int)), (82, .int .i64 st4.2)], hpGet [(2, .box 24 [.int .i64 s.1, .int .i64 s.2.1, .sl (.sl (.int .i64)) s.2.2.1, .sl (.sl (.int .i64)) s.2.2.2]), (3, .box 24 [.int .i64 t.1, .int .i64 t.2.1, .sl (.sl (.int .i64)) t.2.2.1, .sl (.sl (.int .i64)) t.2.2.2]), (4, .box 24 [.int .i64 0, .int .i64 0, .cv (.slice none 0 0), .cv (.slice none 0 0)]), (6, .box 24 [.int .i64 (s.1 * t.1), .int .i64 (s.2.1 + t.2.1), .own 100, .own 117]), (55, .arr 3 (.int .i64) st4.1), (100, .arr 25 (.sl (.int .i64)) st2.1), (117, .arr 25 (.sl (.int .i64)) st2.2.1)], gt⟩) (b4, 0) hw40 (zL [] [] []) ?_
               as_aux_lemma =>
                intro st4 x43 h hd42
                unfold spec_Both_b4 at h
                refine zo ?_
                refine zB [(2, .bp 2 0), (3, .bp 3 0), (4, .bp 4 0), (6, .bp 6 0), (7, .int .i64 st1.2.2), (8, .int .i64 st2.2.2), (9, .own 55), (44, .int .i64 s.1), (45, .int .i64 st1.2.2), (49, .int .i64 t.1), (50, .int .i64 st2.2.2), (80, .sl (.int .i64) (t.2.2.1.getD st2.2.2.toNat [])), (81, .int .i64 ((t.2.2.1.getD st2.2.2.toNat []).length : Int)), (82, .int .i64 st4.2), (83, .bool (decide (st4.2 < ((t.2.2.1.getD st2.2.2.toNat []).length : Int))))] [(2, .box 24 [.int .i64 s.1, .int .i64 s.2.1, .sl (.sl (.int .i64)) s.2.2.1, .sl (.sl (.int .i64)) s.2.2.2]), (3, .box 24 [.int .i64 t.1, .int .i64 t.2.1, .sl (.sl (.int .i64)) t.2.2.1, .sl (.sl (.int .i64)) t.2.2.2]), (4, .box 24 [.int .i64 0, .int .i64 0, .cv (.slice none 0 0), .cv (.slice none 0 0)]), (6, .box 24 [.int .i64 (s.1 * t.1), .int .i64 (s.2.1 + t.2.1), .own 100, .own 117]), (55, .arr 3 (.int .i64) st4.1), (100, .arr 25 (.sl (.int .i64)) st2.1), (117, .arr 25 (.sl (.int .i64)) st2.2.1)] ?_
                refine AW.seq ?_
                refine zQ h (fun hb45 h => ?_) (fun hb45 h => ?_)
                ·refine zk ?_
                 refine AW.seq ?_
                 refine AW.block ?_
                 refine zo ?_
                 obtain ⟨c46, h⟩ := ck_some.1 h
                 obtain ⟨c47, h⟩ := ck_some.1 h
                 refine zB [(2, .bp 2 0), (3, .bp 3 0), (4, .bp 4 0), (6, .bp 6 0), (7, .int .i64 st1.2.2), (8, .int .i64 st2.2.2), (9, .own 55), (13, .int .i64 ((t.2.2.1.getD st2.2.2.toNat []).getD st4.2.toNat 0)), (44, .int .i64 s.1), (45, .int .i64 st1.2.2), (49, .int .i64 t.1), (50, .int .i64 st2.2.2), (80, .sl (.int .i64) (t.2.2.1.getD st2.2.2.toNat [])), (81, .int .i64 ((t.2.2.1.getD st2.2.2.toNat []).length : Int)), (82, .int .i64 st4.2)] [(2, .box 24 [.int .i64 s.1, .int .i64 s.2.1, .sl (.sl (.int .i64)) s.2.2.1, .sl (.sl (.int .i64)) s.2.2.2]), (3, .box 24 [.int .i64 t.1, .int .i64 t.2.1, .sl (.sl (.int .i64)) t.2.2.1, .sl (.sl (.int .i64)) t.2.2.2]), (4, .box 24 [.int .i64 0, .int .i64 0, .cv (.slice none 0 0), .cv (.slice none 0 0)]), (6, .box 24 [.int .i64 (s.1 * t.1), .int .i64 (s.2.1 + t.2.1), .own 100, .own 117]), (55, .arr 3 (.int .i64) st4.1), (100, .arr 25 (.sl (.int .i64)) st2.1), (117, .arr 25 (.sl (.int .i64)) st2.2.1)] ?_
                 refine AW.ops ?_
                 obtain ⟨c48, h⟩ := ck_some.1 h
                 obtain ⟨c49, h⟩ := ck_some.1 h
                 obtain ⟨c50, h⟩ := ck_some.1 h
                 refine zA [(2, .bp 2 0), (3, .bp 3 0), (4, .bp 4 0), (6, .bp 6 0), (7, .int .i64 st1.2.2), (8, .int .i64 st2.2.2), (9, .own 94), (44, .int .i64 s.1), (45, .int .i64 st1.2.2), (49, .int .i64 t.1), (50, .int .i64 st2.2.2), (80, .sl (.int .i64) (t.2.2.1.getD st2.2.2.toNat [])), (81, .int .i64 ((t.2.2.1.getD st2.2.2.toNat []).length : Int)), (82, .int .i64 st4.2)] [(2, .box 24 [.int .i64 s.1, .int .i64 s.2.1, .sl (.sl (.int .i64)) s.2.2.1, .sl (.sl (.int .i64)) s.2.2.2]), (3, .box 24 [.int .i64 t.1, .int .i64 t.2.1, .sl (.sl (.int .i64)) t.2.2.1, .sl (.sl (.int .i64)) t.2.2.2]), (4, .box 24 [.int .i64 0, .int .i64 0, .cv (.slice none 0 0), .cv (.slice none 0 0)]), (6, .box 24 [.int .i64 (s.1 * t.1), .int .i64 (s.2.1 + t.2.1), .own 100, .own 117]), (94, .arr 3 (.int .i64) (st4.1 ++ [((st1.2.2 * t.1) + ((t.2.2.1.getD st2.2.2.toNat []).getD st4.2.toNat 0))])), (100, .arr 25 (.sl (.int .i64)) st2.1), (117, .arr 25 (.sl (.int .i64)) st2.2.1)] ?_
                 refine ablock_n ?_
                 refine athen_n ?_
                 refine AW.ops ?_
                 obtain ⟨c51, h⟩ := ck_some.1 h
                 refine zA [(2, .bp 2 0), (3, .bp 3 0), (4, .bp 4 0), (6, .bp 6 0), (7, .int .i64 st1.2.2), (8, .int .i64 st2.2.2), (9, .own 94), (44, .int .i64 s.1), (45, .int .i64 st1.2.2), (49, .int .i64 t.1), (50, .int .i64 st2.2.2), (80, .sl (.int .i64) (t.2.2.1.getD st2.2.2.toNat [])), (81, .int .i64 ((t.2.2.1.getD st2.2.2.toNat []).length : Int)), (82, .int .i64 (st4.2 + 1))] [(2, .box 24 [.int .i64 s.1, .int .i64 s.2.1, .sl (.sl (.int .i64)) s.2.2.1, .sl (.sl (.int .i64)) s.2.2.2]), (3, .box 24 [.int .i64 t.1, .int .i64 t.2.1, .sl (.sl (.int .i64)) t.2.2.1, .sl (.sl (.int .i64)) t.2.2.2]), (4, .box 24 [.int .i64 0, .int .i64 0, .cv (.slice none 0 0), .cv (.slice none 0 0)]), (6, .box 24 [.int .i64 (s.1 * t.1), .int .i64 (s.2.1 + t.2.1), .own 100, .own 117]), (94, .arr 3 (.int .i64) (st4.1 ++ [((st1.2.2 * t.1) + ((t.2.2.1.getD st2.2.2.toNat []).getD st4.2.toNat 0))])), (100, .arr 25 (.sl (.int .i64)) st2.1), (117, .arr 25 (.sl (.int .i64)) st2.2.1)] ?_
                 obtain rfl := Option.some.inj h
                 exact ⟨_, rfl, zL [] [] [(55, 94)]⟩
                ·refine AW.exit ?_
                 refine athen_e ?_
                 obtain rfl := Option.some.inj h
                 rw [← hd42 _ rfl] at ho41
                 have h := ho41
                 refine athen_e ?_
                 refine ablock_s ?_
                 refine athen_n ?_
                 exact AW.weaken (zL [] [] []) (hk_spec_Both_k5 _ h)
            ·refine AW.seq ?_
             refine zo ?_
             obtain ⟨c52, h⟩ := ck_some.1 h
             obtain ⟨c53, h⟩ := ck_some.1 h
             refine zB [(2, .bp 2 0), (3, .bp 3 0), (4, .bp 4 0), (6, .bp 6 0), (7, .int .i64 st1.2.2), (8, .int .i64 st2.2.2), (9, .own 55), (44, .int .i64 s.1), (45, .int .i64 st1.2.2), (49, .int .i64 t.1), (50, .int .i64 st2.2.2), (60, .sl (.int .i64) (s.2.2.1.getD st1.2.2.toNat [])), (61, .int .i64 ((s.2.2.1.getD st1.2.2.toNat []).length : Int)), (62, .int .i64 0)] [(2, .box 24 [.int .i64 s.1, .int .i64 s.2.1, .sl (.sl (.int .i64)) s.2.2.1, .sl (.sl (.int .i64)) s.2.2.2]), (3, .box 24 [.int .i64 t.1, .int .i64 t.2.1, .sl (.sl (.int .i64)) t.2.2.1, .sl (.sl (.int .i64)) t.2.2.2]), (4, .box 24 [.int .i64 0, .int .i64 0, .cv (.slice none 0 0), .cv (.slice none 0 0)]), (6, .box 24 [.int .i64 (s.1 * t.1), .int .i64 (s.2.1 + t.2.1), .own 100, .own 117]), (55, .arr 3 (.int .i64) (List.replicate 0 (0 : Int))), (100, .arr 25 (.sl (.int .i64)) st2.1), (117, .arr 25 (.sl (.int .i64)) st2.2.1)] ?_
             refine AW.block ?_
             obtain ⟨rv58, hw54, ho55⟩ := Option.bind_eq_some_iff.1 h
             refine AW.loopO (spec_Both_b3 s t st1 st2) (fun st3 => ⟨fr [(2, .bp 2 0), (3, .bp 3 0), (4, .bp 4 0), (6, .bp 6 0), (7, .int .i64 st1.2.2), (8, .int .i64 st2.2.2), (9, .own 55), (44, .int .i64 s.1), (45, .int .i64 st1.2.2), (49, .int .i64 t.1), (50, .int .i64 st2.2.2), (60, .sl (.int .i64) (s.2.2.1.getD st1.2.2.toNat [])), (61, .int .i64 ((s.2.2.1.getD st1.2.2.toNat []).length : Int)), (62, .int .i64 st3.2)], hpGet [(2, .box 24 [.int .i64 s.1, .int .i64 s.2.1, .sl (.sl (.int .i64)) s.2.2.1, .sl (.sl (.int .i64)) s.2.2.2]), (3, .box 24 [.int .i64 t.1, .int .i64 t.2.1, .sl (.sl (.int .i64)) t.2.2.1, .sl (.sl (.int .i64)) t.2.2.2]), (4, .box 24 [.int .i64 0, .int .i64 0, .cv (.slice none 0 0), .cv (.slice none 0 0)]), (6, .box 24 [.int .i64 (s.1 * t.1), .int .i64 (s.2.1 + t.2.1), .own 100, .own 117]), (55, .arr 3 (.int .i64) st3.1), (100, .arr 25 (.sl (.int .i64)) st2.1), (117, .arr 25 (.sl (.int .i64)) st2.2.1)], gt⟩) ((List.replicate 0 (0 : Int)), 0) hw54 (zL [] [] []) ?_
             as_aux_lemma =>
              intro st3 x57 h hd56
              unfold spec_Both_b3 at h
              refine zo ?_
              refine zB [(2, .bp 2 0), (3, .bp 3 0), (4, .bp 4 0), (6, .bp 6 0), (7, .int .i64 st1.2.2), (8, .int .i64 st2.2.2), (9, .own 55), (44, .int .i64 s.1), (45, .int .i64 st1.2.2), (49, .int .i64 t.1), (50, .int .i64 st2.2.2), (60, .sl (.int .i64) (s.2.2.1.getD st1.2.2.toNat [])), (61, .int .i64 ((s.2.2.1.getD st1.2.2.toNat []).length : Int)), (62, .int .i64 st3.2), (63, .bool (decide (st3.2 < ((s.2.2.1.getD st1.2.2.toNat []).length : Int))))] [(2, .box 24 [.int .i64 s.1, .int .i64 s.2.1, .sl (.sl (.int .i64)) s.2.2.1, .sl (.sl (.int .i64)) s.2.2.2]), (3, .box 24 [.int .i64 t.1, .int .i64 t.2.1, .sl (.sl (.int .i64)) t.2.2.1, .sl (.sl (.int .i64)) t.2.2.2]), (4, .box 24 [.int .i64 0, .int .i64 0, .cv (.slice none 0 0), .cv (.slice none 0 0)]), (6, .box 24 [.int .i64 (s.1 * t.1), .int .i64 (s.2.1 + t.2.1), .own 100, .own 117]), (55, .arr 3 (.int .i64) st3.1), (100, .arr 25 (.sl (.int .i64)) st2.1), (117, .arr 25 (.sl (.int .i64)) st2.2.1)] ?_
              refine AW.seq ?_
              refine zQ h (fun hb59 h => ?_) (fun hb59 h => ?_)
              ·refine zk ?_
               refine AW.seq ?_
               refine AW.block ?_
               refine zo ?_
               obtain ⟨c60, h⟩ := ck_some.1 h
               obtain ⟨c61, h⟩ := ck_some.1 h
               refine zB [(2, .bp 2 0), (3, .bp 3 0), (4, .bp 4 0), (6, .bp 6 0), (7, .int .i64 st1.2.2), (8, .int .i64 st2.2.2), (9, .own 55), (11, .int .i64 ((s.2.2.1.getD st1.2.2.toNat []).getD st3.2.toNat 0)), (44, .int .i64 s.1), (45, .int .i64 st1.2.2), (49, .int .i64 t.1), (50, .int .i64 st2.2.2), (60, .sl (.int .i64) (s.2.2.1.getD st1.2.2.toNat [])), (61, .int .i64 ((s.2.2.1.getD st1.2.2.toNat []).length : Int)), (62, .int .i64 st3.2)] [(2, .box 24 [.int .i64 s.1, .int .i64 s.2.1, .sl (.sl (.int .i64)) s.2.2.1, .sl (.sl (.int .i64)) s.2.2.2]), (3, .box 24 [.int .i64 t.1, .int .i64 t.2.1, .sl (.sl (.int .i64)) t.2.2.1, .sl (.sl (.int .i64)) t.2.2.2]), (4, .box 24 [.int .i64 0, .int .i64 0, .cv (.slice none 0 0), .cv (.slice none 0 0)]), (6, .box 24 [.int .i64 (s.1 * t.1), .int .i64 (s.2.1 + t.2.1), .own 100, .own 117]), (55, .arr 3 (.int .i64) st3.1), (100, .arr 25 (.sl (.int .i64)) st2.1), (117, .arr 25 (.sl (.int .i64)) st2.2.1)] ?_
               refine AW.ops ?_
               obtain ⟨c62, h⟩ := ck_some.1 h
               obtain ⟨c63, h⟩ := ck_some.1 h
               obtain ⟨c64, h⟩ := ck_some.1 h
               refine zA [(2, .bp 2 0), (3, .bp 3 0), (4, .bp 4 0), (6, .bp 6 0), (7, .int .i64 st1.2.2), (8, .int .i64 st2.2.2), (9, .own 74), (44, .int .i64 s.1), (45, .int .i64 st1.2.2), (49, .int .i64 t.1), (50, .int .i64 st2.2.2), (60, .sl (.int .i64) (s.2.2.1.getD st1.2.2.toNat [])), (61, .int .i64 ((s.2.2.1.getD st1.2.2.toNat []).length : Int)), (62, .int .i64 st3.2)] [(2, .box 24 [.int .i64 s.1, .int .i64 s.2.1, .sl (.sl (.int .i64)) s.2.2.1, .sl (.sl (.int .i64)) s.2.2.2]), (3, .box 24 [.int .i64 t.1, .int .i64 t.2.1, .sl (.sl (.int .i64)) t.2.2.1, .sl (.sl (.int .i64)) t.2.2.2]), (4, .box 24 [.int .i64 0, .int .i64 0, .cv (.slice none 0 0), .cv (.slice none 0 0)]), (6, .box 24 [.int .i64 (s.1 * t.1), .int .i64 (s.2.1 + t.2.1), .own 100, .own 117]), (74, .arr 3 (.int .i64) (st3.1 ++ [((((s.2.2.1.getD st1.2.2.toNat []).getD st3.2.toNat 0) * t.1) + st2.2.2)])), (100, .arr 25 (.sl (.int .i64)) st2.1), (117, .arr 25 (.sl (.int .i64)) st2.2.1)] ?_
               refine ablock_n ?_
               refine athen_n ?_
               refine AW.ops ?_
               obtain ⟨c65, h⟩ := ck_some.1 h
               refine zA [(2, .bp 2 0), (3, .bp 3 0), (4, .bp 4 0), (6, .bp 6 0), (7, .int .i64 st1.2.2), (8, .int .i64 st2.2.2), (9, .own 74), (44, .int .i64 s.1), (45, .int .i64 st1.2.2), (49, .int .i64 t.1), (50, .int .i64 st2.2.2), (60, .sl (.int .i64) (s.2.2.1.getD st1.2.2.toNat [])), (61, .int .i64 ((s.2.2.1.getD st1.2.2.toNat []).length : Int)), (62, .int .i64 (st3.2 + 1))] [(2, .box 24 [.int .i64 s.1, .int .i64 s.2.1, .sl (.sl (.int .i64)) s.2.2.1, .sl (.sl (.int .i64)) s.2.2.2]), (3, .box 24 [.int .i64 t.1, .int .i64 t.2.1, .sl (.sl (.int .i64)) t.2.2.1, .sl (.sl (.int .i64)) t.2.2.2]), (4, .box 24 [.int .i64 0, .int .i64 0, .cv (.slice none 0 0), .cv (.slice none 0 0)]), (6, .box 24 [.int .i64 (s.1 * t.1), .int .i64 (s.2.1 + t.2.1), .own 100, .own 117]), (74, .arr 3 (.int .i64) (st3.1 ++ [((((s.2.2.1.getD st1.2.2.toNat []).getD st3.2.toNat 0) * t.1) + st2.2.2)])), (100, .arr 25 (.sl (.int .i64)) st2.1), (117, .arr 25 (.sl (.int .i64)) st2.2.1)] ?_
               obtain rfl := Option.some.inj h
               exact ⟨_, rfl, zL [] [] [(55, 74)]⟩
              ·refine AW.exit ?_
               refine athen_e ?_
               obtain rfl := Option.some.inj h
               rw [← hd56 _ rfl] at ho55
               have h := ho55
               refine athen_e ?_
               refine ablock_s ?_
               refine athen_n ?_
               exact AW.weaken (zL [] [] []) (hk_spec_Both_k4 _ h)
          ·refine AW.exit ?_
           refine athen_e ?_
           obtain rfl := Option.some.inj h
           rw [← hd20 _ rfl] at ho19
           have h := ho19
           refine athen_e ?_
           refine ablock_s ?_
           refine ablock_n ?_
           refine athen_n ?_
           exact AW.weaken (zL [] [] []) (hk_spec_Both_k2 _ h)
       ·refine AW.exit ?_
        refine athen_e ?_
        obtain rfl := Option.some.inj h
        rw [← hd13 _ rfl] at ho12
        have h := ho12
        refine athen_e ?_
        refine ablock_s ?_
        refine athen_n ?_
        exact AW.weaken (zL [] [] []) (hk_spec_Both_k1 _ h)

end Go.Proofs.Ytcgflignbhmoaaa
