/-
  Made by wip/tool/dc.py out of the print of the program: contracts.
-/
import Derived.Test.YtcgflignbhmoaaaQp
import Derived.Test.YtcgflignbhmoaaaShs
import Derived.Test.YtcgflignbhmoaaaAvd
import Derived.Test.YtcgflignbhmoaaaMxc5
namespace Go.Proofs.Ytcgflignbhmoaaa
open Go.RowKit

set_option linter.unusedSimpArgs false
set_option linter.unusedVariables false
set_option linter.constructorNameAsVariable false

set_option maxRecDepth 100000
set_option maxHeartbeats 2000000

theorem hc_linealref01_Both (s : Int × Int × (List (List Int)) × (List (List Int))) (t : Int × Int × (List (List Int)) × (List (List Int))) {r : Int × Int × (List (List Int)) × (List (List Int)) × Int} (h : linealref01_Both s t = some r) : HC Try.prog 43 [] [.agg [.int .i64 s.1, .int .i64 s.2.1, .sl (.sl (.int .i64)) s.2.2.1, .sl (.sl (.int .i64)) s.2.2.2], .agg [.int .i64 t.1, .int .i64 t.2.1, .sl (.sl (.int .i64)) t.2.2.1, .sl (.sl (.int .i64)) t.2.2.2]] [(2000, .arr 25 (.sl (.int .i64)) r.2.2.1), (2001, .arr 25 (.sl (.int .i64)) r.2.2.2.1)] (.tup [.agg [.int .i64 r.1, .int .i64 r.2.1, .own 2000, .own 2001], .int .i64 r.2.2.2.2]) := by
 unfold linealref01_Both at h
 refine zH Try.func43 [.cell 4 24, .tmp 5] 133 ?_
 refine zo ?_
 refine zB [(2, .bp 2 0), (3, .bp 3 0), (4, .bp 4 0)] [(2, .box 24 [.int .i64 s.1, .int .i64 s.2.1, .sl (.sl (.int .i64)) s.2.2.1, .sl (.sl (.int .i64)) s.2.2.2]), (3, .box 24 [.int .i64 t.1, .int .i64 t.2.1, .sl (.sl (.int .i64)) t.2.2.1, .sl (.sl (.int .i64)) t.2.2.2]), (4, .box 24 [.int .i64 0, .int .i64 0, .cv (.slice none 0 0), .cv (.slice none 0 0)])] ?_
 refine AW.seq ?_
 refine zo ?_
 refine zS 1 [(2, .bp 2 0), (3, .bp 3 0), (4, .bp 4 0), (13, .agg [.int .i64 s.1, .int .i64 s.2.1, .sl (.sl (.int .i64)) s.2.2.1, .sl (.sl (.int .i64)) s.2.2.2])] [(2, .box 24 [.int .i64 s.1, .int .i64 s.2.1, .sl (.sl (.int .i64)) s.2.2.1, .sl (.sl (.int .i64)) s.2.2.2]), (3, .box 24 [.int .i64 t.1, .int .i64 t.2.1, .sl (.sl (.int .i64)) t.2.2.1, .sl (.sl (.int .i64)) t.2.2.2]), (4, .box 24 [.int .i64 0, .int .i64 0, .cv (.slice none 0 0), .cv (.slice none 0 0)])] ?_
 obtain ⟨v0, hv1, h⟩ := Option.bind_eq_some_iff.1 h
 refine zC [] [] (hc_linealref01_Valid s hv1) [(2, .bp 2 0), (3, .bp 3 0), (4, .bp 4 0), (14, .bool v0)] [(2, .box 24 [.int .i64 s.1, .int .i64 s.2.1, .sl (.sl (.int .i64)) s.2.2.1, .sl (.sl (.int .i64)) s.2.2.2]), (3, .box 24 [.int .i64 t.1, .int .i64 t.2.1, .sl (.sl (.int .i64)) t.2.2.1, .sl (.sl (.int .i64)) t.2.2.2]), (4, .box 24 [.int .i64 0, .int .i64 0, .cv (.slice none 0 0), .cv (.slice none 0 0)])] ?_
 refine zS 2 [(2, .bp 2 0), (3, .bp 3 0), (4, .bp 4 0), (16, .bool (!v0))] [(2, .box 24 [.int .i64 s.1, .int .i64 s.2.1, .sl (.sl (.int .i64)) s.2.2.1, .sl (.sl (.int .i64)) s.2.2.2]), (3, .box 24 [.int .i64 t.1, .int .i64 t.2.1, .sl (.sl (.int .i64)) t.2.2.1, .sl (.sl (.int .i64)) t.2.2.2]), (4, .box 24 [.int .i64 0, .int .i64 0, .cv (.slice none 0 0), .cv (.slice none 0 0)])] ?_
 rcases zI h with ⟨hb2, h⟩ | ⟨hb2, h⟩
 ·refine zB [(2, .bp 2 0), (3, .bp 3 0), (4, .bp 4 0), (20, .bool true)] [(2, .box 24 [.int .i64 s.1, .int .i64 s.2.1, .sl (.sl (.int .i64)) s.2.2.1, .sl (.sl (.int .i64)) s.2.2.2]), (3, .box 24 [.int .i64 t.1, .int .i64 t.2.1, .sl (.sl (.int .i64)) t.2.2.1, .sl (.sl (.int .i64)) t.2.2.2]), (4, .box 24 [.int .i64 0, .int .i64 0, .cv (.slice none 0 0), .cv (.slice none 0 0)])] ?_
  refine AW.cond (b := true) rfl (fun _ => ?_) (fun hb3 => by cases hb3)
  refine zo ?_
  refine zB [(4, .bp 4 0), (5, .int .i64 10)] [(4, .box 24 [.int .i64 0, .int .i64 0, .cv (.slice none 0 0), .cv (.slice none 0 0)])] ?_
  refine zr ?_
  obtain rfl := Option.some.inj h
  exact zR [] [2000, 2001] []
 ·refine zS 1 [(2, .bp 2 0), (3, .bp 3 0), (4, .bp 4 0), (16, .bool false), (17, .agg [.int .i64 t.1, .int .i64 t.2.1, .sl (.sl (.int .i64)) t.2.2.1, .sl (.sl (.int .i64)) t.2.2.2])] [(2, .box 24 [.int .i64 s.1, .int .i64 s.2.1, .sl (.sl (.int .i64)) s.2.2.1, .sl (.sl (.int .i64)) s.2.2.2]), (3, .box 24 [.int .i64 t.1, .int .i64 t.2.1, .sl (.sl (.int .i64)) t.2.2.1, .sl (.sl (.int .i64)) t.2.2.2]), (4, .box 24 [.int .i64 0, .int .i64 0, .cv (.slice none 0 0), .cv (.slice none 0 0)])] ?_
  obtain ⟨v0_2, hv4, h⟩ := Option.bind_eq_some_iff.1 h
  refine zG [] [] (hc_linealref01_Valid t hv4) [(2, .bp 2 0), (3, .bp 3 0), (4, .bp 4 0), (16, .bool false), (18, .bool v0_2)] [(2, .box 24 [.int .i64 s.1, .int .i64 s.2.1, .sl (.sl (.int .i64)) s.2.2.1, .sl (.sl (.int .i64)) s.2.2.2]), (3, .box 24 [.int .i64 t.1, .int .i64 t.2.1, .sl (.sl (.int .i64)) t.2.2.1, .sl (.sl (.int .i64)) t.2.2.2]), (4, .box 24 [.int .i64 0, .int .i64 0, .cv (.slice none 0 0), .cv (.slice none 0 0)])] ?_
  refine zB [(2, .bp 2 0), (3, .bp 3 0), (4, .bp 4 0), (20, .bool (!v0_2))] [(2, .box 24 [.int .i64 s.1, .int .i64 s.2.1, .sl (.sl (.int .i64)) s.2.2.1, .sl (.sl (.int .i64)) s.2.2.2]), (3, .box 24 [.int .i64 t.1, .int .i64 t.2.1, .sl (.sl (.int .i64)) t.2.2.1, .sl (.sl (.int .i64)) t.2.2.2]), (4, .box 24 [.int .i64 0, .int .i64 0, .cv (.slice none 0 0), .cv (.slice none 0 0)])] ?_
  refine zQ h (fun hb5 h => ?_) (fun hb5 h => ?_)
  ·refine zo ?_
   refine zB [(4, .bp 4 0), (5, .int .i64 10)] [(4, .box 24 [.int .i64 0, .int .i64 0, .cv (.slice none 0 0), .cv (.slice none 0 0)])] ?_
   refine zr ?_
   obtain rfl := Option.some.inj h
   exact zR [] [2000, 2001] []
  ·refine zk ?_
   refine zo ?_
   obtain ⟨c6, h⟩ := ck_some.1 h
   obtain ⟨c7, h⟩ := ck_some.1 h
   refine zB [(2, .bp 2 0), (3, .bp 3 0), (4, .bp 4 0), (6, .bp 6 0)] [(2, .box 24 [.int .i64 s.1, .int .i64 s.2.1, .sl (.sl (.int .i64)) s.2.2.1, .sl (.sl (.int .i64)) s.2.2.2]), (3, .box 24 [.int .i64 t.1, .int .i64 t.2.1, .sl (.sl (.int .i64)) t.2.2.1, .sl (.sl (.int .i64)) t.2.2.2]), (4, .box 24 [.int .i64 0, .int .i64 0, .cv (.slice none 0 0), .cv (.slice none 0 0)]), (6, .box 24 [.int .i64 (s.1 * t.1), .int .i64 (s.2.1 + t.2.1), .cv (.slice none 0 0), .cv (.slice none 0 0)])] ?_
   refine AW.seq ?_
   refine zo ?_
   refine zS 4 [(2, .bp 2 0), (3, .bp 3 0), (4, .bp 4 0), (6, .bp 6 0), (36, .bool (decide (8 < (s.1 * t.1))))] [(2, .box 24 [.int .i64 s.1, .int .i64 s.2.1, .sl (.sl (.int .i64)) s.2.2.1, .sl (.sl (.int .i64)) s.2.2.2]), (3, .box 24 [.int .i64 t.1, .int .i64 t.2.1, .sl (.sl (.int .i64)) t.2.2.1, .sl (.sl (.int .i64)) t.2.2.2]), (4, .box 24 [.int .i64 0, .int .i64 0, .cv (.slice none 0 0), .cv (.slice none 0 0)]), (6, .box 24 [.int .i64 (s.1 * t.1), .int .i64 (s.2.1 + t.2.1), .cv (.slice none 0 0), .cv (.slice none 0 0)])] ?_
   rcases zI h with ⟨hb8, h⟩ | ⟨hb8, h⟩
   ·refine zB [(2, .bp 2 0), (3, .bp 3 0), (4, .bp 4 0), (6, .bp 6 0), (40, .bool true)] [(2, .box 24 [.int .i64 s.1, .int .i64 s.2.1, .sl (.sl (.int .i64)) s.2.2.1, .sl (.sl (.int .i64)) s.2.2.2]), (3, .box 24 [.int .i64 t.1, .int .i64 t.2.1, .sl (.sl (.int .i64)) t.2.2.1, .sl (.sl (.int .i64)) t.2.2.2]), (4, .box 24 [.int .i64 0, .int .i64 0, .cv (.slice none 0 0), .cv (.slice none 0 0)]), (6, .box 24 [.int .i64 (s.1 * t.1), .int .i64 (s.2.1 + t.2.1), .cv (.slice none 0 0), .cv (.slice none 0 0)])] ?_
    refine AW.cond (b := true) rfl (fun _ => ?_) (fun hb9 => by cases hb9)
    refine zo ?_
    refine zB [(4, .bp 4 0), (5, .int .i64 4)] [(4, .box 24 [.int .i64 0, .int .i64 0, .cv (.slice none 0 0), .cv (.slice none 0 0)])] ?_
    refine zr ?_
    obtain rfl := Option.some.inj h
    exact zR [] [2000, 2001] []
   ·refine zB [(2, .bp 2 0), (3, .bp 3 0), (4, .bp 4 0), (6, .bp 6 0), (40, .bool (decide (4 < (s.2.1 + t.2.1))))] [(2, .box 24 [.int .i64 s.1, .int .i64 s.2.1, .sl (.sl (.int .i64)) s.2.2.1, .sl (.sl (.int .i64)) s.2.2.2]), (3, .box 24 [.int .i64 t.1, .int .i64 t.2.1, .sl (.sl (.int .i64)) t.2.2.1, .sl (.sl (.int .i64)) t.2.2.2]), (4, .box 24 [.int .i64 0, .int .i64 0, .cv (.slice none 0 0), .cv (.slice none 0 0)]), (6, .box 24 [.int .i64 (s.1 * t.1), .int .i64 (s.2.1 + t.2.1), .cv (.slice none 0 0), .cv (.slice none 0 0)])] ?_
    refine zQ h (fun hb10 h => ?_) (fun hb10 h => ?_)
    ·refine zo ?_
     refine zB [(4, .bp 4 0), (5, .int .i64 4)] [(4, .box 24 [.int .i64 0, .int .i64 0, .cv (.slice none 0 0), .cv (.slice none 0 0)])] ?_
     refine zr ?_
     obtain rfl := Option.some.inj h
     exact zR [] [2000, 2001] []
    ·refine zk ?_
     refine AW.have1 (fun b5_4 : (List (List Int)) × (List (List Int)) => linealref01_Both_k1 s t b5_4 = some r) (fun b5_4 => ⟨fr [(4, .bp 4 0), (6, .bp 6 0)], hpGet [(4, .box 24 [.int .i64 0, .int .i64 0, .cv (.slice none 0 0), .cv (.slice none 0 0)]), (6, .box 24 [.int .i64 (s.1 * t.1), .int .i64 (s.2.1 + t.2.1), .own 122, .own 128]), (122, .arr 25 (.sl (.int .i64)) b5_4.1), (128, .arr 25 (.sl (.int .i64)) b5_4.2)], gt⟩) (fun b5_4 h => ?_) (fun hk_linealref01_Both_k1 => ?_)
     ·as_aux_lemma =>
       unfold linealref01_Both_k1 at h
       refine zo ?_
       refine zB [(4, .bp 4 0), (5, .int .i64 0)] [(4, .box 24 [.int .i64 (s.1 * t.1), .int .i64 (s.2.1 + t.2.1), .own 122, .own 128]), (122, .arr 25 (.sl (.int .i64)) b5_4.1), (128, .arr 25 (.sl (.int .i64)) b5_4.2)] ?_
       refine AW.ret ?_
       obtain rfl := Option.some.inj h
       exact zR [] [] [(2000, 122), (2001, 128)]
     ·refine AW.seq ?_
      refine zo ?_
      refine zB [(2, .bp 2 0), (3, .bp 3 0), (4, .bp 4 0), (6, .bp 6 0), (43, .int .i64 s.1), (44, .int .i64 0)] [(2, .box 24 [.int .i64 s.1, .int .i64 s.2.1, .sl (.sl (.int .i64)) s.2.2.1, .sl (.sl (.int .i64)) s.2.2.2]), (3, .box 24 [.int .i64 t.1, .int .i64 t.2.1, .sl (.sl (.int .i64)) t.2.2.1, .sl (.sl (.int .i64)) t.2.2.2]), (4, .box 24 [.int .i64 0, .int .i64 0, .cv (.slice none 0 0), .cv (.slice none 0 0)]), (6, .box 24 [.int .i64 (s.1 * t.1), .int .i64 (s.2.1 + t.2.1), .cv (.slice none 0 0), .cv (.slice none 0 0)])] ?_
      refine AW.block ?_
      obtain ⟨rv15, hw11, ho12⟩ := Option.bind_eq_some_iff.1 h
      refine AW.loopO (linealref01_Both_b1 s t) (fun st1 => ⟨fr [(2, .bp 2 0), (3, .bp 3 0), (4, .bp 4 0), (6, .bp 6 0), (43, .int .i64 s.1), (44, .int .i64 st1.2.2)], hpGet [(2, .box 24 [.int .i64 s.1, .int .i64 s.2.1, .sl (.sl (.int .i64)) s.2.2.1, .sl (.sl (.int .i64)) s.2.2.2]), (3, .box 24 [.int .i64 t.1, .int .i64 t.2.1, .sl (.sl (.int .i64)) t.2.2.1, .sl (.sl (.int .i64)) t.2.2.2]), (4, .box 24 [.int .i64 0, .int .i64 0, .cv (.slice none 0 0), .cv (.slice none 0 0)]), (6, .box 24 [.int .i64 (s.1 * t.1), .int .i64 (s.2.1 + t.2.1), .own 122, .own 128]), (122, .arr 25 (.sl (.int .i64)) st1.1), (128, .arr 25 (.sl (.int .i64)) st1.2.1)], gt⟩) ([], [], 0) hw11 (zL [] [122, 128] []) ?_
      as_aux_lemma =>
       intro st1 x14 h hd13
       unfold linealref01_Both_b1 at h
       refine zo ?_
       refine zB [(2, .bp 2 0), (3, .bp 3 0), (4, .bp 4 0), (6, .bp 6 0), (43, .int .i64 s.1), (44, .int .i64 st1.2.2), (45, .bool (decide (st1.2.2 < s.1)))] [(2, .box 24 [.int .i64 s.1, .int .i64 s.2.1, .sl (.sl (.int .i64)) s.2.2.1, .sl (.sl (.int .i64)) s.2.2.2]), (3, .box 24 [.int .i64 t.1, .int .i64 t.2.1, .sl (.sl (.int .i64)) t.2.2.1, .sl (.sl (.int .i64)) t.2.2.2]), (4, .box 24 [.int .i64 0, .int .i64 0, .cv (.slice none 0 0), .cv (.slice none 0 0)]), (6, .box 24 [.int .i64 (s.1 * t.1), .int .i64 (s.2.1 + t.2.1), .own 122, .own 128]), (122, .arr 25 (.sl (.int .i64)) st1.1), (128, .arr 25 (.sl (.int .i64)) st1.2.1)] ?_
       refine AW.seq ?_
       refine zQ h (fun hb16 h => ?_) (fun hb16 h => ?_)
       ·refine zk ?_
        refine AW.have1 (fun b5_3 : (List (List Int)) × (List (List Int)) => linealref01_Both_k2 st1 b5_3 = some x14) (fun b5_3 => ⟨fr [(2, .bp 2 0), (3, .bp 3 0), (4, .bp 4 0), (6, .bp 6 0), (43, .int .i64 s.1), (44, .int .i64 st1.2.2)], hpGet [(2, .box 24 [.int .i64 s.1, .int .i64 s.2.1, .sl (.sl (.int .i64)) s.2.2.1, .sl (.sl (.int .i64)) s.2.2.2]), (3, .box 24 [.int .i64 t.1, .int .i64 t.2.1, .sl (.sl (.int .i64)) t.2.2.1, .sl (.sl (.int .i64)) t.2.2.2]), (4, .box 24 [.int .i64 0, .int .i64 0, .cv (.slice none 0 0), .cv (.slice none 0 0)]), (6, .box 24 [.int .i64 (s.1 * t.1), .int .i64 (s.2.1 + t.2.1), .own 122, .own 128]), (122, .arr 25 (.sl (.int .i64)) b5_3.1), (128, .arr 25 (.sl (.int .i64)) b5_3.2)], gt⟩) (fun b5_3 h => ?_) (fun hk_linealref01_Both_k2 => ?_)
        ·as_aux_lemma =>
          unfold linealref01_Both_k2 at h
          refine AW.ops ?_
          obtain ⟨c17, h⟩ := ck_some.1 h
          refine zA [(2, .bp 2 0), (3, .bp 3 0), (4, .bp 4 0), (6, .bp 6 0), (43, .int .i64 s.1), (44, .int .i64 (st1.2.2 + 1))] [(2, .box 24 [.int .i64 s.1, .int .i64 s.2.1, .sl (.sl (.int .i64)) s.2.2.1, .sl (.sl (.int .i64)) s.2.2.2]), (3, .box 24 [.int .i64 t.1, .int .i64 t.2.1, .sl (.sl (.int .i64)) t.2.2.1, .sl (.sl (.int .i64)) t.2.2.2]), (4, .box 24 [.int .i64 0, .int .i64 0, .cv (.slice none 0 0), .cv (.slice none 0 0)]), (6, .box 24 [.int .i64 (s.1 * t.1), .int .i64 (s.2.1 + t.2.1), .own 122, .own 128]), (122, .arr 25 (.sl (.int .i64)) b5_3.1), (128, .arr 25 (.sl (.int .i64)) b5_3.2)] ?_
          obtain rfl := Option.some.inj h
          exact ⟨_, rfl, zL [] [] []⟩
        ·refine AW.seq ?_
         refine AW.block ?_
         refine zo ?_
         refine zB [(2, .bp 2 0), (3, .bp 3 0), (4, .bp 4 0), (6, .bp 6 0), (7, .int .i64 st1.2.2), (43, .int .i64 s.1), (44, .int .i64 st1.2.2)] [(2, .box 24 [.int .i64 s.1, .int .i64 s.2.1, .sl (.sl (.int .i64)) s.2.2.1, .sl (.sl (.int .i64)) s.2.2.2]), (3, .box 24 [.int .i64 t.1, .int .i64 t.2.1, .sl (.sl (.int .i64)) t.2.2.1, .sl (.sl (.int .i64)) t.2.2.2]), (4, .box 24 [.int .i64 0, .int .i64 0, .cv (.slice none 0 0), .cv (.slice none 0 0)]), (6, .box 24 [.int .i64 (s.1 * t.1), .int .i64 (s.2.1 + t.2.1), .own 122, .own 128]), (122, .arr 25 (.sl (.int .i64)) st1.1), (128, .arr 25 (.sl (.int .i64)) st1.2.1)] ?_
         refine zo ?_
         refine zB [(2, .bp 2 0), (3, .bp 3 0), (4, .bp 4 0), (6, .bp 6 0), (7, .int .i64 st1.2.2), (43, .int .i64 s.1), (44, .int .i64 st1.2.2), (48, .int .i64 t.1), (49, .int .i64 0)] [(2, .box 24 [.int .i64 s.1, .int .i64 s.2.1, .sl (.sl (.int .i64)) s.2.2.1, .sl (.sl (.int .i64)) s.2.2.2]), (3, .box 24 [.int .i64 t.1, .int .i64 t.2.1, .sl (.sl (.int .i64)) t.2.2.1, .sl (.sl (.int .i64)) t.2.2.2]), (4, .box 24 [.int .i64 0, .int .i64 0, .cv (.slice none 0 0), .cv (.slice none 0 0)]), (6, .box 24 [.int .i64 (s.1 * t.1), .int .i64 (s.2.1 + t.2.1), .own 122, .own 128]), (122, .arr 25 (.sl (.int .i64)) st1.1), (128, .arr 25 (.sl (.int .i64)) st1.2.1)] ?_
         refine AW.block ?_
         obtain ⟨rv22, hw18, ho19⟩ := Option.bind_eq_some_iff.1 h
         refine AW.loopO (linealref01_Both_b2 s t st1) (fun st2 => ⟨fr [(2, .bp 2 0), (3, .bp 3 0), (4, .bp 4 0), (6, .bp 6 0), (7, .int .i64 st1.2.2), (43, .int .i64 s.1), (44, .int .i64 st1.2.2), (48, .int .i64 t.1), (49, .int .i64 st2.2.2)], hpGet [(2, .box 24 [.int .i64 s.1, .int .i64 s.2.1, .sl (.sl (.int .i64)) s.2.2.1, .sl (.sl (.int .i64)) s.2.2.2]), (3, .box 24 [.int .i64 t.1, .int .i64 t.2.1, .sl (.sl (.int .i64)) t.2.2.1, .sl (.sl (.int .i64)) t.2.2.2]), (4, .box 24 [.int .i64 0, .int .i64 0, .cv (.slice none 0 0), .cv (.slice none 0 0)]), (6, .box 24 [.int .i64 (s.1 * t.1), .int .i64 (s.2.1 + t.2.1), .own 122, .own 128]), (122, .arr 25 (.sl (.int .i64)) st2.1), (128, .arr 25 (.sl (.int .i64)) st2.2.1)], gt⟩) (st1.1, st1.2.1, 0) hw18 (zL [] [] []) ?_
         as_aux_lemma =>
          intro st2 x21 h hd20
          unfold linealref01_Both_b2 at h
          refine zo ?_
          refine zB [(2, .bp 2 0), (3, .bp 3 0), (4, .bp 4 0), (6, .bp 6 0), (7, .int .i64 st1.2.2), (43, .int .i64 s.1), (44, .int .i64 st1.2.2), (48, .int .i64 t.1), (49, .int .i64 st2.2.2), (50, .bool (decide (st2.2.2 < t.1)))] [(2, .box 24 [.int .i64 s.1, .int .i64 s.2.1, .sl (.sl (.int .i64)) s.2.2.1, .sl (.sl (.int .i64)) s.2.2.2]), (3, .box 24 [.int .i64 t.1, .int .i64 t.2.1, .sl (.sl (.int .i64)) t.2.2.1, .sl (.sl (.int .i64)) t.2.2.2]), (4, .box 24 [.int .i64 0, .int .i64 0, .cv (.slice none 0 0), .cv (.slice none 0 0)]), (6, .box 24 [.int .i64 (s.1 * t.1), .int .i64 (s.2.1 + t.2.1), .own 122, .own 128]), (122, .arr 25 (.sl (.int .i64)) st2.1), (128, .arr 25 (.sl (.int .i64)) st2.2.1)] ?_
          refine AW.seq ?_
          refine zQ h (fun hb23 h => ?_) (fun hb23 h => ?_)
          ·refine zk ?_
           refine AW.have1 (fun b5_2 : (List (List Int)) × (List (List Int)) => linealref01_Both_k3 st2 b5_2 = some x21) (fun b5_2 => ⟨fr [(2, .bp 2 0), (3, .bp 3 0), (4, .bp 4 0), (6, .bp 6 0), (7, .int .i64 st1.2.2), (43, .int .i64 s.1), (44, .int .i64 st1.2.2), (48, .int .i64 t.1), (49, .int .i64 st2.2.2)], hpGet [(2, .box 24 [.int .i64 s.1, .int .i64 s.2.1, .sl (.sl (.int .i64)) s.2.2.1, .sl (.sl (.int .i64)) s.2.2.2]), (3, .box 24 [.int .i64 t.1, .int .i64 t.2.1, .sl (.sl (.int .i64)) t.2.2.1, .sl (.sl (.int .i64)) t.2.2.2]), (4, .box 24 [.int .i64 0, .int .i64 0, .cv (.slice none 0 0), .cv (.slice none 0 0)]), (6, .box 24 [.int .i64 (s.1 * t.1), .int .i64 (s.2.1 + t.2.1), .own 122, .own 128]), (122, .arr 25 (.sl (.int .i64)) b5_2.1), (128, .arr 25 (.sl (.int .i64)) b5_2.2)], gt⟩) (fun b5_2 h => ?_) (fun hk_linealref01_Both_k3 => ?_)
           ·as_aux_lemma =>
             unfold linealref01_Both_k3 at h
             refine AW.ops ?_
             obtain ⟨c24, h⟩ := ck_some.1 h
             refine zA [(2, .bp 2 0), (3, .bp 3 0), (4, .bp 4 0), (6, .bp 6 0), (7, .int .i64 st1.2.2), (43, .int .i64 s.1), (44, .int .i64 st1.2.2), (48, .int .i64 t.1), (49, .int .i64 (st2.2.2 + 1))] [(2, .box 24 [.int .i64 s.1, .int .i64 s.2.1, .sl (.sl (.int .i64)) s.2.2.1, .sl (.sl (.int .i64)) s.2.2.2]), (3, .box 24 [.int .i64 t.1, .int .i64 t.2.1, .sl (.sl (.int .i64)) t.2.2.1, .sl (.sl (.int .i64)) t.2.2.2]), (4, .box 24 [.int .i64 0, .int .i64 0, .cv (.slice none 0 0), .cv (.slice none 0 0)]), (6, .box 24 [.int .i64 (s.1 * t.1), .int .i64 (s.2.1 + t.2.1), .own 122, .own 128]), (122, .arr 25 (.sl (.int .i64)) b5_2.1), (128, .arr 25 (.sl (.int .i64)) b5_2.2)] ?_
             obtain rfl := Option.some.inj h
             exact ⟨_, rfl, zL [] [] []⟩
           ·refine AW.seq ?_
            refine AW.block ?_
            refine zo ?_
            refine zB [(2, .bp 2 0), (3, .bp 3 0), (4, .bp 4 0), (6, .bp 6 0), (7, .int .i64 st1.2.2), (8, .int .i64 st2.2.2), (43, .int .i64 s.1), (44, .int .i64 st1.2.2), (48, .int .i64 t.1), (49, .int .i64 st2.2.2)] [(2, .box 24 [.int .i64 s.1, .int .i64 s.2.1, .sl (.sl (.int .i64)) s.2.2.1, .sl (.sl (.int .i64)) s.2.2.2]), (3, .box 24 [.int .i64 t.1, .int .i64 t.2.1, .sl (.sl (.int .i64)) t.2.2.1, .sl (.sl (.int .i64)) t.2.2.2]), (4, .box 24 [.int .i64 0, .int .i64 0, .cv (.slice none 0 0), .cv (.slice none 0 0)]), (6, .box 24 [.int .i64 (s.1 * t.1), .int .i64 (s.2.1 + t.2.1), .own 122, .own 128]), (122, .arr 25 (.sl (.int .i64)) st2.1), (128, .arr 25 (.sl (.int .i64)) st2.2.1)] ?_
            refine zo ?_
            refine zB [(2, .bp 2 0), (3, .bp 3 0), (4, .bp 4 0), (6, .bp 6 0), (7, .int .i64 st1.2.2), (8, .int .i64 st2.2.2), (9, .cv (.slice none 0 0)), (10, .cv (.slice none 0 0)), (43, .int .i64 s.1), (44, .int .i64 st1.2.2), (48, .int .i64 t.1), (49, .int .i64 st2.2.2)] [(2, .box 24 [.int .i64 s.1, .int .i64 s.2.1, .sl (.sl (.int .i64)) s.2.2.1, .sl (.sl (.int .i64)) s.2.2.2]), (3, .box 24 [.int .i64 t.1, .int .i64 t.2.1, .sl (.sl (.int .i64)) t.2.2.1, .sl (.sl (.int .i64)) t.2.2.2]), (4, .box 24 [.int .i64 0, .int .i64 0, .cv (.slice none 0 0), .cv (.slice none 0 0)]), (6, .box 24 [.int .i64 (s.1 * t.1), .int .i64 (s.2.1 + t.2.1), .own 122, .own 128]), (122, .arr 25 (.sl (.int .i64)) st2.1), (128, .arr 25 (.sl (.int .i64)) st2.2.1)] ?_
            refine AW.have1 (fun b4 : (List Int) × (List Int) => linealref01_Both_k4 t st1 st2 b4 = some x21) (fun b4 => ⟨fr [(2, .bp 2 0), (3, .bp 3 0), (4, .bp 4 0), (6, .bp 6 0), (7, .int .i64 st1.2.2), (8, .int .i64 st2.2.2), (9, .own 72), (10, .own 83), (43, .int .i64 s.1), (44, .int .i64 st1.2.2), (48, .int .i64 t.1), (49, .int .i64 st2.2.2)], hpGet [(2, .box 24 [.int .i64 s.1, .int .i64 s.2.1, .sl (.sl (.int .i64)) s.2.2.1, .sl (.sl (.int .i64)) s.2.2.2]), (3, .box 24 [.int .i64 t.1, .int .i64 t.2.1, .sl (.sl (.int .i64)) t.2.2.1, .sl (.sl (.int .i64)) t.2.2.2]), (4, .box 24 [.int .i64 0, .int .i64 0, .cv (.slice none 0 0), .cv (.slice none 0 0)]), (6, .box 24 [.int .i64 (s.1 * t.1), .int .i64 (s.2.1 + t.2.1), .own 122, .own 128]), (72, .arr 3 (.int .i64) b4.1), (83, .arr 3 (.int .i64) b4.2), (122, .arr 25 (.sl (.int .i64)) st2.1), (128, .arr 25 (.sl (.int .i64)) st2.2.1)], gt⟩) (fun b4 h => ?_) (fun hk_linealref01_Both_k4 => ?_)
            ·as_aux_lemma =>
              unfold linealref01_Both_k4 at h
              refine AW.have1 (fun b5 : (List Int) × (List Int) => linealref01_Both_k5 st2 b5 = some x21) (fun b5 => ⟨fr [(2, .bp 2 0), (3, .bp 3 0), (4, .bp 4 0), (6, .bp 6 0), (7, .int .i64 st1.2.2), (9, .own 72), (10, .own 83), (43, .int .i64 s.1), (44, .int .i64 st1.2.2), (48, .int .i64 t.1), (49, .int .i64 st2.2.2)], hpGet [(2, .box 24 [.int .i64 s.1, .int .i64 s.2.1, .sl (.sl (.int .i64)) s.2.2.1, .sl (.sl (.int .i64)) s.2.2.2]), (3, .box 24 [.int .i64 t.1, .int .i64 t.2.1, .sl (.sl (.int .i64)) t.2.2.1, .sl (.sl (.int .i64)) t.2.2.2]), (4, .box 24 [.int .i64 0, .int .i64 0, .cv (.slice none 0 0), .cv (.slice none 0 0)]), (6, .box 24 [.int .i64 (s.1 * t.1), .int .i64 (s.2.1 + t.2.1), .own 122, .own 128]), (72, .arr 3 (.int .i64) b5.1), (83, .arr 3 (.int .i64) b5.2), (122, .arr 25 (.sl (.int .i64)) st2.1), (128, .arr 25 (.sl (.int .i64)) st2.2.1)], gt⟩) (fun b5 h => ?_) (fun hk_linealref01_Both_k5 => ?_)
              ·as_aux_lemma =>
                unfold linealref01_Both_k5 at h
                refine zo ?_
                obtain ⟨c25, h⟩ := ck_some.1 h
                refine zB [(2, .bp 2 0), (3, .bp 3 0), (4, .bp 4 0), (6, .bp 6 0), (7, .int .i64 st1.2.2), (10, .own 83), (43, .int .i64 s.1), (44, .int .i64 st1.2.2), (48, .int .i64 t.1), (49, .int .i64 st2.2.2)] [(2, .box 24 [.int .i64 s.1, .int .i64 s.2.1, .sl (.sl (.int .i64)) s.2.2.1, .sl (.sl (.int .i64)) s.2.2.2]), (3, .box 24 [.int .i64 t.1, .int .i64 t.2.1, .sl (.sl (.int .i64)) t.2.2.1, .sl (.sl (.int .i64)) t.2.2.2]), (4, .box 24 [.int .i64 0, .int .i64 0, .cv (.slice none 0 0), .cv (.slice none 0 0)]), (6, .box 24 [.int .i64 (s.1 * t.1), .int .i64 (s.2.1 + t.2.1), .own 122, .own 128]), (83, .arr 3 (.int .i64) b5.2), (122, .arr 25 (.sl (.int .i64)) (st2.1 ++ [b5.1])), (128, .arr 25 (.sl (.int .i64)) st2.2.1)] ?_
                refine AW.ops ?_
                obtain ⟨c26, h⟩ := ck_some.1 h
                refine zA [(2, .bp 2 0), (3, .bp 3 0), (4, .bp 4 0), (6, .bp 6 0), (7, .int .i64 st1.2.2), (43, .int .i64 s.1), (44, .int .i64 st1.2.2), (48, .int .i64 t.1), (49, .int .i64 st2.2.2)] [(2, .box 24 [.int .i64 s.1, .int .i64 s.2.1, .sl (.sl (.int .i64)) s.2.2.1, .sl (.sl (.int .i64)) s.2.2.2]), (3, .box 24 [.int .i64 t.1, .int .i64 t.2.1, .sl (.sl (.int .i64)) t.2.2.1, .sl (.sl (.int .i64)) t.2.2.2]), (4, .box 24 [.int .i64 0, .int .i64 0, .cv (.slice none 0 0), .cv (.slice none 0 0)]), (6, .box 24 [.int .i64 (s.1 * t.1), .int .i64 (s.2.1 + t.2.1), .own 122, .own 128]), (122, .arr 25 (.sl (.int .i64)) (st2.1 ++ [b5.1])), (128, .arr 25 (.sl (.int .i64)) (st2.2.1 ++ [b5.2]))] ?_
                refine ablock_n ?_
                refine athen_n ?_
                exact AW.weaken (zL [] [] []) (hk_linealref01_Both_k3 _ h)
              ·refine AW.seq ?_
               refine zo ?_
               refine zB [(2, .bp 2 0), (3, .bp 3 0), (4, .bp 4 0), (6, .bp 6 0), (7, .int .i64 st1.2.2), (8, .int .i64 st2.2.2), (9, .own 72), (10, .own 83), (43, .int .i64 s.1), (44, .int .i64 st1.2.2), (48, .int .i64 t.1), (49, .int .i64 st2.2.2), (86, .int .i64 t.2.1), (87, .int .i64 0)] [(2, .box 24 [.int .i64 s.1, .int .i64 s.2.1, .sl (.sl (.int .i64)) s.2.2.1, .sl (.sl (.int .i64)) s.2.2.2]), (3, .box 24 [.int .i64 t.1, .int .i64 t.2.1, .sl (.sl (.int .i64)) t.2.2.1, .sl (.sl (.int .i64)) t.2.2.2]), (4, .box 24 [.int .i64 0, .int .i64 0, .cv (.slice none 0 0), .cv (.slice none 0 0)]), (6, .box 24 [.int .i64 (s.1 * t.1), .int .i64 (s.2.1 + t.2.1), .own 122, .own 128]), (72, .arr 3 (.int .i64) b4.1), (83, .arr 3 (.int .i64) b4.2), (122, .arr 25 (.sl (.int .i64)) st2.1), (128, .arr 25 (.sl (.int .i64)) st2.2.1)] ?_
               refine AW.block ?_
               obtain ⟨rv31, hw27, ho28⟩ := Option.bind_eq_some_iff.1 h
               refine AW.loopO (linealref01_Both_b4 t st1 st2) (fun st4 => ⟨fr [(2, .bp 2 0), (3, .bp 3 0), (4, .bp 4 0), (6, .bp 6 0), (7, .int .i64 st1.2.2), (8, .int .i64 st2.2.2), (9, .own 72), (10, .own 83), (43, .int .i64 s.1), (44, .int .i64 st1.2.2), (48, .int .i64 t.1), (49, .int .i64 st2.2.2), (86, .int .i64 t.2.1), (87, .int .i64 st4.2.2)], hpGet [(2, .box 24 [.int .i64 s.1, .int .i64 s.2.1, .sl (.sl (.int .i64)) s.2.2.1, .sl (.sl (.int .i64)) s.2.2.2]), (3, .box 24 [.int .i64 t.1, .int .i64 t.2.1, .sl (.sl (.int .i64)) t.2.2.1, .sl (.sl (.int .i64)) t.2.2.2]), (4, .box 24 [.int .i64 0, .int .i64 0, .cv (.slice none 0 0), .cv (.slice none 0 0)]), (6, .box 24 [.int .i64 (s.1 * t.1), .int .i64 (s.2.1 + t.2.1), .own 122, .own 128]), (72, .arr 3 (.int .i64) st4.1), (83, .arr 3 (.int .i64) st4.2.1), (122, .arr 25 (.sl (.int .i64)) st2.1), (128, .arr 25 (.sl (.int .i64)) st2.2.1)], gt⟩) (b4.1, b4.2, 0) hw27 (zL [] [] []) ?_
               as_aux_lemma =>
                intro st4 x30 h hd29
                unfold linealref01_Both_b4 at h
                refine zo ?_
                refine zB [(2, .bp 2 0), (3, .bp 3 0), (4, .bp 4 0), (6, .bp 6 0), (7, .int .i64 st1.2.2), (8, .int .i64 st2.2.2), (9, .own 72), (10, .own 83), (43, .int .i64 s.1), (44, .int .i64 st1.2.2), (48, .int .i64 t.1), (49, .int .i64 st2.2.2), (86, .int .i64 t.2.1), (87, .int .i64 st4.2.2), (88, .bool (decide (st4.2.2 < t.2.1)))] [(2, .box 24 [.int .i64 s.1, .int .i64 s.2.1, .sl (.sl (.int .i64)) s.2.2.1, .sl (.sl (.int .i64)) s.2.2.2]), (3, .box 24 [.int .i64 t.1, .int .i64 t.2.1, .sl (.sl (.int .i64)) t.2.2.1, .sl (.sl (.int .i64)) t.2.2.2]), (4, .box 24 [.int .i64 0, .int .i64 0, .cv (.slice none 0 0), .cv (.slice none 0 0)]), (6, .box 24 [.int .i64 (s.1 * t.1), .int .i64 (s.2.1 + t.2.1), .own 122, .own 128]), (72, .arr 3 (.int .i64) st4.1), (83, .arr 3 (.int .i64) st4.2.1), (122, .arr 25 (.sl (.int .i64)) st2.1), (128, .arr 25 (.sl (.int .i64)) st2.2.1)] ?_
                refine AW.seq ?_
                refine zQ h (fun hb32 h => ?_) (fun hb32 h => ?_)
                ·refine zk ?_
                 refine AW.seq ?_
                 refine AW.block ?_
                 refine zo ?_
                 refine zB [(2, .bp 2 0), (3, .bp 3 0), (4, .bp 4 0), (6, .bp 6 0), (7, .int .i64 st1.2.2), (8, .int .i64 st2.2.2), (9, .own 72), (10, .own 83), (12, .int .i64 st4.2.2), (43, .int .i64 s.1), (44, .int .i64 st1.2.2), (48, .int .i64 t.1), (49, .int .i64 st2.2.2), (86, .int .i64 t.2.1), (87, .int .i64 st4.2.2)] [(2, .box 24 [.int .i64 s.1, .int .i64 s.2.1, .sl (.sl (.int .i64)) s.2.2.1, .sl (.sl (.int .i64)) s.2.2.2]), (3, .box 24 [.int .i64 t.1, .int .i64 t.2.1, .sl (.sl (.int .i64)) t.2.2.1, .sl (.sl (.int .i64)) t.2.2.2]), (4, .box 24 [.int .i64 0, .int .i64 0, .cv (.slice none 0 0), .cv (.slice none 0 0)]), (6, .box 24 [.int .i64 (s.1 * t.1), .int .i64 (s.2.1 + t.2.1), .own 122, .own 128]), (72, .arr 3 (.int .i64) st4.1), (83, .arr 3 (.int .i64) st4.2.1), (122, .arr 25 (.sl (.int .i64)) st2.1), (128, .arr 25 (.sl (.int .i64)) st2.2.1)] ?_
                 refine AW.seq ?_
                 refine AW.draw tab_ok mixed_ok [(14, [104]), (15, [72, 105])] [(0, [72])] (by decide) (lex_fast (by kernel_rfl)) ?_
                 as_aux_lemma =>
                  obtain ⟨c34, h⟩ := ck_some.1 h
                  refine adops_cut 6 (fun K' hK33 => ?_)
                  try dsimp only [List.drop_succ_cons, List.drop_zero, List.take_succ_cons, List.take_zero]
                  simp only [go_sem, hb2, hb5, hb8, hb10, hb16, hb23, hb32]
                  repeat with_reducible refine zN ?_
                  refine hK33 _ ?_
                  as_aux_lemma =>
                   obtain ⟨c36, h⟩ := ck_some.1 h
                   obtain ⟨c37, h⟩ := ck_some.1 h
                   obtain ⟨c38, h⟩ := ck_some.1 h
                   obtain ⟨c39, h⟩ := ck_some.1 h
                   refine adops_cut 6 (fun K' hK35 => ?_)
                   try dsimp only [List.drop_succ_cons, List.drop_zero, List.take_succ_cons, List.take_zero]
                   simp only [go_sem, hb2, hb5, hb8, hb10, hb16, hb23, hb32]
                   repeat with_reducible refine zN ?_
                   refine hK35 _ ?_
                   as_aux_lemma =>
                    obtain ⟨c41, h⟩ := ck_some.1 h
                    obtain ⟨c42, h⟩ := ck_some.1 h
                    refine adops_cut 5 (fun K' hK40 => ?_)
                    try dsimp only [List.drop_succ_cons, List.drop_zero, List.take_succ_cons, List.take_zero]
                    simp only [go_sem, hb2, hb5, hb8, hb10, hb16, hb23, hb32]
                    repeat with_reducible refine zN ?_
                    refine hK40 _ ?_
                    refine adops_nil ?_
                    refine athen_n ?_
                    refine zV [(2, .bp 2 0), (3, .bp 3 0), (4, .bp 4 0), (6, .bp 6 0), (7, .int .i64 st1.2.2), (8, .int .i64 st2.2.2), (9, .own 105), (10, .own 83), (12, .int .i64 st4.2.2), (43, .int .i64 s.1), (44, .int .i64 st1.2.2), (48, .int .i64 t.1), (49, .int .i64 st2.2.2), (86, .int .i64 t.2.1), (87, .int .i64 st4.2.2)] [(2, .box 24 [.int .i64 s.1, .int .i64 s.2.1, .sl (.sl (.int .i64)) s.2.2.1, .sl (.sl (.int .i64)) s.2.2.2]), (3, .box 24 [.int .i64 t.1, .int .i64 t.2.1, .sl (.sl (.int .i64)) t.2.2.1, .sl (.sl (.int .i64)) t.2.2.2]), (4, .box 24 [.int .i64 0, .int .i64 0, .cv (.slice none 0 0), .cv (.slice none 0 0)]), (6, .box 24 [.int .i64 (s.1 * t.1), .int .i64 (s.2.1 + t.2.1), .own 122, .own 128]), (83, .arr 3 (.int .i64) st4.2.1), (105, .arr 3 (.int .i64) (st4.1 ++ [((st1.2.2 * t.1) + ((t.2.2.1.getD st2.2.2.toNat []).getD st4.2.2.toNat 0))])), (122, .arr 25 (.sl (.int .i64)) st2.1), (128, .arr 25 (.sl (.int .i64)) st2.2.1)] gt ?_
                    as_aux_lemma =>
                     refine AW.ops ?_
                     obtain ⟨c43, h⟩ := ck_some.1 h
                     obtain ⟨c44, h⟩ := ck_some.1 h
                     obtain ⟨c45, h⟩ := ck_some.1 h
                     obtain ⟨c46, h⟩ := ck_some.1 h
                     obtain ⟨c47, h⟩ := ck_some.1 h
                     refine zA [(2, .bp 2 0), (3, .bp 3 0), (4, .bp 4 0), (6, .bp 6 0), (7, .int .i64 st1.2.2), (8, .int .i64 st2.2.2), (9, .own 105), (10, .own 116), (43, .int .i64 s.1), (44, .int .i64 st1.2.2), (48, .int .i64 t.1), (49, .int .i64 st2.2.2), (86, .int .i64 t.2.1), (87, .int .i64 st4.2.2)] [(2, .box 24 [.int .i64 s.1, .int .i64 s.2.1, .sl (.sl (.int .i64)) s.2.2.1, .sl (.sl (.int .i64)) s.2.2.2]), (3, .box 24 [.int .i64 t.1, .int .i64 t.2.1, .sl (.sl (.int .i64)) t.2.2.1, .sl (.sl (.int .i64)) t.2.2.2]), (4, .box 24 [.int .i64 0, .int .i64 0, .cv (.slice none 0 0), .cv (.slice none 0 0)]), (6, .box 24 [.int .i64 (s.1 * t.1), .int .i64 (s.2.1 + t.2.1), .own 122, .own 128]), (105, .arr 3 (.int .i64) (st4.1 ++ [((st1.2.2 * t.1) + ((t.2.2.1.getD st2.2.2.toNat []).getD st4.2.2.toNat 0))])), (116, .arr 3 (.int .i64) (st4.2.1 ++ [((t.2.2.2.getD st2.2.2.toNat []).getD st4.2.2.toNat 0)])), (122, .arr 25 (.sl (.int .i64)) st2.1), (128, .arr 25 (.sl (.int .i64)) st2.2.1)] ?_
                     refine ablock_n ?_
                     refine athen_n ?_
                     refine AW.ops ?_
                     obtain ⟨c48, h⟩ := ck_some.1 h
                     refine zA [(2, .bp 2 0), (3, .bp 3 0), (4, .bp 4 0), (6, .bp 6 0), (7, .int .i64 st1.2.2), (8, .int .i64 st2.2.2), (9, .own 105), (10, .own 116), (43, .int .i64 s.1), (44, .int .i64 st1.2.2), (48, .int .i64 t.1), (49, .int .i64 st2.2.2), (86, .int .i64 t.2.1), (87, .int .i64 (st4.2.2 + 1))] [(2, .box 24 [.int .i64 s.1, .int .i64 s.2.1, .sl (.sl (.int .i64)) s.2.2.1, .sl (.sl (.int .i64)) s.2.2.2]), (3, .box 24 [.int .i64 t.1, .int .i64 t.2.1, .sl (.sl (.int .i64)) t.2.2.1, .sl (.sl (.int .i64)) t.2.2.2]), (4, .box 24 [.int .i64 0, .int .i64 0, .cv (.slice none 0 0), .cv (.slice none 0 0)]), (6, .box 24 [.int .i64 (s.1 * t.1), .int .i64 (s.2.1 + t.2.1), .own 122, .own 128]), (105, .arr 3 (.int .i64) (st4.1 ++ [((st1.2.2 * t.1) + ((t.2.2.1.getD st2.2.2.toNat []).getD st4.2.2.toNat 0))])), (116, .arr 3 (.int .i64) (st4.2.1 ++ [((t.2.2.2.getD st2.2.2.toNat []).getD st4.2.2.toNat 0)])), (122, .arr 25 (.sl (.int .i64)) st2.1), (128, .arr 25 (.sl (.int .i64)) st2.2.1)] ?_
                     obtain rfl := Option.some.inj h
                     exact ⟨_, rfl, zL [] [] [(72, 105), (83, 116)]⟩
                ·refine AW.exit ?_
                 refine athen_e ?_
                 obtain rfl := Option.some.inj h
                 rw [← hd29 _ rfl] at ho28
                 have h := ho28
                 refine athen_e ?_
                 refine ablock_s ?_
                 refine athen_n ?_
                 exact AW.weaken (zL [] [] []) (hk_linealref01_Both_k5 _ h)
            ·refine AW.seq ?_
             refine zo ?_
             refine zB [(2, .bp 2 0), (3, .bp 3 0), (4, .bp 4 0), (6, .bp 6 0), (7, .int .i64 st1.2.2), (8, .int .i64 st2.2.2), (9, .cv (.slice none 0 0)), (10, .cv (.slice none 0 0)), (43, .int .i64 s.1), (44, .int .i64 st1.2.2), (48, .int .i64 t.1), (49, .int .i64 st2.2.2), (53, .int .i64 s.2.1), (54, .int .i64 0)] [(2, .box 24 [.int .i64 s.1, .int .i64 s.2.1, .sl (.sl (.int .i64)) s.2.2.1, .sl (.sl (.int .i64)) s.2.2.2]), (3, .box 24 [.int .i64 t.1, .int .i64 t.2.1, .sl (.sl (.int .i64)) t.2.2.1, .sl (.sl (.int .i64)) t.2.2.2]), (4, .box 24 [.int .i64 0, .int .i64 0, .cv (.slice none 0 0), .cv (.slice none 0 0)]), (6, .box 24 [.int .i64 (s.1 * t.1), .int .i64 (s.2.1 + t.2.1), .own 122, .own 128]), (122, .arr 25 (.sl (.int .i64)) st2.1), (128, .arr 25 (.sl (.int .i64)) st2.2.1)] ?_
             refine AW.block ?_
             obtain ⟨rv53, hw49, ho50⟩ := Option.bind_eq_some_iff.1 h
             refine AW.loopO (linealref01_Both_b3 s t st1 st2) (fun st3 => ⟨fr [(2, .bp 2 0), (3, .bp 3 0), (4, .bp 4 0), (6, .bp 6 0), (7, .int .i64 st1.2.2), (8, .int .i64 st2.2.2), (9, .own 72), (10, .own 83), (43, .int .i64 s.1), (44, .int .i64 st1.2.2), (48, .int .i64 t.1), (49, .int .i64 st2.2.2), (53, .int .i64 s.2.1), (54, .int .i64 st3.2.2)], hpGet [(2, .box 24 [.int .i64 s.1, .int .i64 s.2.1, .sl (.sl (.int .i64)) s.2.2.1, .sl (.sl (.int .i64)) s.2.2.2]), (3, .box 24 [.int .i64 t.1, .int .i64 t.2.1, .sl (.sl (.int .i64)) t.2.2.1, .sl (.sl (.int .i64)) t.2.2.2]), (4, .box 24 [.int .i64 0, .int .i64 0, .cv (.slice none 0 0), .cv (.slice none 0 0)]), (6, .box 24 [.int .i64 (s.1 * t.1), .int .i64 (s.2.1 + t.2.1), .own 122, .own 128]), (72, .arr 3 (.int .i64) st3.1), (83, .arr 3 (.int .i64) st3.2.1), (122, .arr 25 (.sl (.int .i64)) st2.1), (128, .arr 25 (.sl (.int .i64)) st2.2.1)], gt⟩) ([], [], 0) hw49 (zL [] [72, 83] []) ?_
             as_aux_lemma =>
              intro st3 x52 h hd51
              unfold linealref01_Both_b3 at h
              refine zo ?_
              refine zB [(2, .bp 2 0), (3, .bp 3 0), (4, .bp 4 0), (6, .bp 6 0), (7, .int .i64 st1.2.2), (8, .int .i64 st2.2.2), (9, .own 72), (10, .own 83), (43, .int .i64 s.1), (44, .int .i64 st1.2.2), (48, .int .i64 t.1), (49, .int .i64 st2.2.2), (53, .int .i64 s.2.1), (54, .int .i64 st3.2.2), (55, .bool (decide (st3.2.2 < s.2.1)))] [(2, .box 24 [.int .i64 s.1, .int .i64 s.2.1, .sl (.sl (.int .i64)) s.2.2.1, .sl (.sl (.int .i64)) s.2.2.2]), (3, .box 24 [.int .i64 t.1, .int .i64 t.2.1, .sl (.sl (.int .i64)) t.2.2.1, .sl (.sl (.int .i64)) t.2.2.2]), (4, .box 24 [.int .i64 0, .int .i64 0, .cv (.slice none 0 0), .cv (.slice none 0 0)]), (6, .box 24 [.int .i64 (s.1 * t.1), .int .i64 (s.2.1 + t.2.1), .own 122, .own 128]), (72, .arr 3 (.int .i64) st3.1), (83, .arr 3 (.int .i64) st3.2.1), (122, .arr 25 (.sl (.int .i64)) st2.1), (128, .arr 25 (.sl (.int .i64)) st2.2.1)] ?_
              refine AW.seq ?_
              refine zQ h (fun hb54 h => ?_) (fun hb54 h => ?_)
              ·refine zk ?_
               refine AW.seq ?_
               refine AW.block ?_
               refine zo ?_
               refine zB [(2, .bp 2 0), (3, .bp 3 0), (4, .bp 4 0), (6, .bp 6 0), (7, .int .i64 st1.2.2), (8, .int .i64 st2.2.2), (9, .own 72), (10, .own 83), (11, .int .i64 st3.2.2), (43, .int .i64 s.1), (44, .int .i64 st1.2.2), (48, .int .i64 t.1), (49, .int .i64 st2.2.2), (53, .int .i64 s.2.1), (54, .int .i64 st3.2.2)] [(2, .box 24 [.int .i64 s.1, .int .i64 s.2.1, .sl (.sl (.int .i64)) s.2.2.1, .sl (.sl (.int .i64)) s.2.2.2]), (3, .box 24 [.int .i64 t.1, .int .i64 t.2.1, .sl (.sl (.int .i64)) t.2.2.1, .sl (.sl (.int .i64)) t.2.2.2]), (4, .box 24 [.int .i64 0, .int .i64 0, .cv (.slice none 0 0), .cv (.slice none 0 0)]), (6, .box 24 [.int .i64 (s.1 * t.1), .int .i64 (s.2.1 + t.2.1), .own 122, .own 128]), (72, .arr 3 (.int .i64) st3.1), (83, .arr 3 (.int .i64) st3.2.1), (122, .arr 25 (.sl (.int .i64)) st2.1), (128, .arr 25 (.sl (.int .i64)) st2.2.1)] ?_
               refine AW.seq ?_
               refine AW.draw tab_ok mixed_ok [(14, [71]), (15, [72])] [(0, [72])] (by decide) (lex_fast (by kernel_rfl)) ?_
               as_aux_lemma =>
                obtain ⟨c56, h⟩ := ck_some.1 h
                obtain ⟨c57, h⟩ := ck_some.1 h
                refine adops_cut 6 (fun K' hK55 => ?_)
                try dsimp only [List.drop_succ_cons, List.drop_zero, List.take_succ_cons, List.take_zero]
                simp only [go_sem, hb2, hb5, hb8, hb10, hb16, hb23, hb54]
                repeat with_reducible refine zN ?_
                refine hK55 _ ?_
                as_aux_lemma =>
                 obtain ⟨c59, h⟩ := ck_some.1 h
                 obtain ⟨c60, h⟩ := ck_some.1 h
                 obtain ⟨c61, h⟩ := ck_some.1 h
                 refine adops_cut 6 (fun K' hK58 => ?_)
                 try dsimp only [List.drop_succ_cons, List.drop_zero, List.take_succ_cons, List.take_zero]
                 simp only [go_sem, hb2, hb5, hb8, hb10, hb16, hb23, hb54]
                 repeat with_reducible refine zN ?_
                 refine hK58 _ ?_
                 as_aux_lemma =>
                  obtain ⟨c63, h⟩ := ck_some.1 h
                  obtain ⟨c64, h⟩ := ck_some.1 h
                  refine adops_cut 5 (fun K' hK62 => ?_)
                  try dsimp only [List.drop_succ_cons, List.drop_zero, List.take_succ_cons, List.take_zero]
                  simp only [go_sem, hb2, hb5, hb8, hb10, hb16, hb23, hb54]
                  repeat with_reducible refine zN ?_
                  refine hK62 _ ?_
                  refine adops_nil ?_
                  refine athen_n ?_
                  refine zV [(2, .bp 2 0), (3, .bp 3 0), (4, .bp 4 0), (6, .bp 6 0), (7, .int .i64 st1.2.2), (8, .int .i64 st2.2.2), (9, .own 72), (10, .own 83), (11, .int .i64 st3.2.2), (43, .int .i64 s.1), (44, .int .i64 st1.2.2), (48, .int .i64 t.1), (49, .int .i64 st2.2.2), (53, .int .i64 s.2.1), (54, .int .i64 st3.2.2)] [(2, .box 24 [.int .i64 s.1, .int .i64 s.2.1, .sl (.sl (.int .i64)) s.2.2.1, .sl (.sl (.int .i64)) s.2.2.2]), (3, .box 24 [.int .i64 t.1, .int .i64 t.2.1, .sl (.sl (.int .i64)) t.2.2.1, .sl (.sl (.int .i64)) t.2.2.2]), (4, .box 24 [.int .i64 0, .int .i64 0, .cv (.slice none 0 0), .cv (.slice none 0 0)]), (6, .box 24 [.int .i64 (s.1 * t.1), .int .i64 (s.2.1 + t.2.1), .own 122, .own 128]), (72, .arr 3 (.int .i64) (st3.1 ++ [((((s.2.2.1.getD st1.2.2.toNat []).getD st3.2.2.toNat 0) * t.1) + st2.2.2)])), (83, .arr 3 (.int .i64) st3.2.1), (122, .arr 25 (.sl (.int .i64)) st2.1), (128, .arr 25 (.sl (.int .i64)) st2.2.1)] gt ?_
                  as_aux_lemma =>
                   refine AW.ops ?_
                   obtain ⟨c65, h⟩ := ck_some.1 h
                   obtain ⟨c66, h⟩ := ck_some.1 h
                   obtain ⟨c67, h⟩ := ck_some.1 h
                   obtain ⟨c68, h⟩ := ck_some.1 h
                   obtain ⟨c69, h⟩ := ck_some.1 h
                   refine zA [(2, .bp 2 0), (3, .bp 3 0), (4, .bp 4 0), (6, .bp 6 0), (7, .int .i64 st1.2.2), (8, .int .i64 st2.2.2), (9, .own 72), (10, .own 83), (43, .int .i64 s.1), (44, .int .i64 st1.2.2), (48, .int .i64 t.1), (49, .int .i64 st2.2.2), (53, .int .i64 s.2.1), (54, .int .i64 st3.2.2)] [(2, .box 24 [.int .i64 s.1, .int .i64 s.2.1, .sl (.sl (.int .i64)) s.2.2.1, .sl (.sl (.int .i64)) s.2.2.2]), (3, .box 24 [.int .i64 t.1, .int .i64 t.2.1, .sl (.sl (.int .i64)) t.2.2.1, .sl (.sl (.int .i64)) t.2.2.2]), (4, .box 24 [.int .i64 0, .int .i64 0, .cv (.slice none 0 0), .cv (.slice none 0 0)]), (6, .box 24 [.int .i64 (s.1 * t.1), .int .i64 (s.2.1 + t.2.1), .own 122, .own 128]), (72, .arr 3 (.int .i64) (st3.1 ++ [((((s.2.2.1.getD st1.2.2.toNat []).getD st3.2.2.toNat 0) * t.1) + st2.2.2)])), (83, .arr 3 (.int .i64) (st3.2.1 ++ [((s.2.2.2.getD st1.2.2.toNat []).getD st3.2.2.toNat 0)])), (122, .arr 25 (.sl (.int .i64)) st2.1), (128, .arr 25 (.sl (.int .i64)) st2.2.1)] ?_
                   refine ablock_n ?_
                   refine athen_n ?_
                   refine AW.ops ?_
                   obtain ⟨c70, h⟩ := ck_some.1 h
                   refine zA [(2, .bp 2 0), (3, .bp 3 0), (4, .bp 4 0), (6, .bp 6 0), (7, .int .i64 st1.2.2), (8, .int .i64 st2.2.2), (9, .own 72), (10, .own 83), (43, .int .i64 s.1), (44, .int .i64 st1.2.2), (48, .int .i64 t.1), (49, .int .i64 st2.2.2), (53, .int .i64 s.2.1), (54, .int .i64 (st3.2.2 + 1))] [(2, .box 24 [.int .i64 s.1, .int .i64 s.2.1, .sl (.sl (.int .i64)) s.2.2.1, .sl (.sl (.int .i64)) s.2.2.2]), (3, .box 24 [.int .i64 t.1, .int .i64 t.2.1, .sl (.sl (.int .i64)) t.2.2.1, .sl (.sl (.int .i64)) t.2.2.2]), (4, .box 24 [.int .i64 0, .int .i64 0, .cv (.slice none 0 0), .cv (.slice none 0 0)]), (6, .box 24 [.int .i64 (s.1 * t.1), .int .i64 (s.2.1 + t.2.1), .own 122, .own 128]), (72, .arr 3 (.int .i64) (st3.1 ++ [((((s.2.2.1.getD st1.2.2.toNat []).getD st3.2.2.toNat 0) * t.1) + st2.2.2)])), (83, .arr 3 (.int .i64) (st3.2.1 ++ [((s.2.2.2.getD st1.2.2.toNat []).getD st3.2.2.toNat 0)])), (122, .arr 25 (.sl (.int .i64)) st2.1), (128, .arr 25 (.sl (.int .i64)) st2.2.1)] ?_
                   obtain rfl := Option.some.inj h
                   exact ⟨_, rfl, zL [] [] []⟩
              ·refine AW.exit ?_
               refine athen_e ?_
               obtain rfl := Option.some.inj h
               rw [← hd51 _ rfl] at ho50
               have h := ho50
               refine athen_e ?_
               refine ablock_s ?_
               refine athen_n ?_
               exact AW.weaken (zL [] [] []) (hk_linealref01_Both_k4 _ h)
          ·refine AW.exit ?_
           refine athen_e ?_
           obtain rfl := Option.some.inj h
           rw [← hd20 _ rfl] at ho19
           have h := ho19
           refine athen_e ?_
           refine ablock_s ?_
           refine ablock_n ?_
           refine athen_n ?_
           exact AW.weaken (zL [] [] []) (hk_linealref01_Both_k2 _ h)
       ·refine AW.exit ?_
        refine athen_e ?_
        obtain rfl := Option.some.inj h
        rw [← hd13 _ rfl] at ho12
        have h := ho12
        refine athen_e ?_
        refine ablock_s ?_
        refine athen_n ?_
        exact AW.weaken (zL [] [] []) (hk_linealref01_Both_k1 _ h)

end Go.Proofs.Ytcgflignbhmoaaa
