/-
  Made by wip/tool/dc.py out of the print of the program: contracts.
-/
import Derived.Test.YtcgflignbhmoaaaQp
import Derived.Test.YtcgflignbhmoaaaShs
import Derived.Test.YtcgflignbhmoaaaMwc1
import Derived.Test.YtcgflignbhmoaaaMwc4
import Derived.Test.YtcgflignbhmoaaaMwc5
import Derived.Test.YtcgflignbhmoaaaMwc6
import Derived.Test.YtcgflignbhmoaaaMwc7
import Derived.Test.YtcgflignbhmoaaaMwc8
import Derived.Test.YtcgflignbhmoaaaMwc9
namespace Go.Proofs.Ytcgflignbhmoaaa
open Go.RowKit

set_option linter.unusedSimpArgs false
set_option linter.unusedVariables false
set_option linter.constructorNameAsVariable false

set_option maxRecDepth 100000
set_option maxHeartbeats 2000000

theorem hc_linealref01_Word (s : Int × Int × (List (List Int)) × (List (List Int))) (a : Int) (b : Int) {r : (List Int) × Int} (h : linealref01_Word s a b = some r) : HC Try.prog 28 [] [.agg [.int .i64 s.1, .int .i64 s.2.1, .sl (.sl (.int .i64)) s.2.2.1, .sl (.sl (.int .i64)) s.2.2.2], .int .i64 a, .int .i64 b] [(2000, .arr 3 (.int .i64) r.1)] (.tup [.own 2000, .int .i64 r.2]) := by
 unfold linealref01_Word at h
 refine zH Try.func28 [.tmp 6, .tmp 7] 29 ?_
 refine zo ?_
 refine zB [(1, .int .i64 a), (2, .int .i64 b), (3, .bp 3 0)] [(3, .box 24 [.int .i64 s.1, .int .i64 s.2.1, .sl (.sl (.int .i64)) s.2.2.1, .sl (.sl (.int .i64)) s.2.2.2])] ?_
 refine AW.seq ?_
 refine zo ?_
 refine zS 3 [(1, .int .i64 a), (2, .int .i64 b), (3, .bp 3 0), (11, .agg [.int .i64 s.1, .int .i64 s.2.1, .sl (.sl (.int .i64)) s.2.2.1, .sl (.sl (.int .i64)) s.2.2.2]), (12, .int .i64 a), (13, .int .i64 b)] [(3, .box 24 [.int .i64 s.1, .int .i64 s.2.1, .sl (.sl (.int .i64)) s.2.2.1, .sl (.sl (.int .i64)) s.2.2.2])] ?_
 obtain ⟨v0, hv1, h⟩ := Option.bind_eq_some_iff.1 h
 refine zC [] [] (hc_linealref01_asked s a b hv1) [(1, .int .i64 a), (2, .int .i64 b), (3, .bp 3 0), (14, .int .i64 v0)] [(3, .box 24 [.int .i64 s.1, .int .i64 s.2.1, .sl (.sl (.int .i64)) s.2.2.1, .sl (.sl (.int .i64)) s.2.2.2])] ?_
 refine zB [(1, .int .i64 a), (2, .int .i64 b), (3, .bp 3 0), (8, .int .i64 v0)] [(3, .box 24 [.int .i64 s.1, .int .i64 s.2.1, .sl (.sl (.int .i64)) s.2.2.1, .sl (.sl (.int .i64)) s.2.2.2])] ?_
 refine zo ?_
 refine zB [(1, .int .i64 a), (2, .int .i64 b), (3, .bp 3 0), (8, .int .i64 v0), (16, .bool (!(decide (v0 = 0))))] [(3, .box 24 [.int .i64 s.1, .int .i64 s.2.1, .sl (.sl (.int .i64)) s.2.2.1, .sl (.sl (.int .i64)) s.2.2.2])] ?_
 refine zQ h (fun hb2 h => ?_) (fun hb2 h => ?_)
 ·refine zo ?_
  refine zB [(6, .cv (.slice none 0 0)), (7, .int .i64 v0)] [] ?_
  refine zr ?_
  obtain rfl := Option.some.inj h
  exact zR [] [2000] []
 ·refine zk ?_
  refine zo ?_
  refine zS 4 [(19, .agg [.int .i64 s.1, .int .i64 s.2.1, .sl (.sl (.int .i64)) s.2.2.1, .sl (.sl (.int .i64)) s.2.2.2]), (20, .agg [.int .i64 s.1, .int .i64 s.2.1, .sl (.sl (.int .i64)) s.2.2.1, .sl (.sl (.int .i64)) s.2.2.2]), (21, .int .i64 a), (22, .int .i64 b)] [] ?_
  obtain ⟨v0_2, hv3, h⟩ := Option.bind_eq_some_iff.1 h
  refine zC [] [] (hc_linealref01_told s s a b hv3) [(23, .tup [.own 33000, .bool v0_2.2])] [(33000, .arr 3 (.int .i64) v0_2.1)] ?_
  refine zB [(9, .own 33000), (10, .bool v0_2.2)] [(33000, .arr 3 (.int .i64) v0_2.1)] ?_
  refine AW.seq ?_
  refine zo ?_
  refine zB [(9, .own 33000), (27, .bool (!v0_2.2))] [(33000, .arr 3 (.int .i64) v0_2.1)] ?_
  refine zQ h (fun hb4 h => ?_) (fun hb4 h => ?_)
  ·refine zo ?_
   refine zB [(6, .cv (.slice none 0 0)), (7, .int .i64 5)] [] ?_
   refine zr ?_
   obtain rfl := Option.some.inj h
   exact zR [] [2000] []
  ·refine zk ?_
   refine zo ?_
   refine zB [(6, .own 33000), (7, .int .i64 0)] [(33000, .arr 3 (.int .i64) v0_2.1)] ?_
   refine AW.ret ?_
   obtain rfl := Option.some.inj h
   exact zR [] [] [(2000, 33000)]

theorem hc_linealref01_classes (s : Int × Int × (List (List Int)) × (List (List Int))) {r : (List Int)} (h : linealref01_classes s = some r) : HC Try.prog 72 [] [.agg [.int .i64 s.1, .int .i64 s.2.1, .sl (.sl (.int .i64)) s.2.2.1, .sl (.sl (.int .i64)) s.2.2.2]] [(2000, .arr 3 (.int .i64) r)] (.own 2000) := by
 unfold linealref01_classes at h
 refine zH Try.func72 [.tmp 2] 37 ?_
 refine zo ?_
 refine zB [(1, .bp 1 0)] [(1, .box 24 [.int .i64 s.1, .int .i64 s.2.1, .sl (.sl (.int .i64)) s.2.2.1, .sl (.sl (.int .i64)) s.2.2.2])] ?_
 refine zo ?_
 refine zS 2 [(1, .bp 1 0), (8, .agg [.int .i64 s.1, .int .i64 s.2.1, .sl (.sl (.int .i64)) s.2.2.1, .sl (.sl (.int .i64)) s.2.2.2]), (9, .agg [.int .i64 s.1, .int .i64 s.2.1, .sl (.sl (.int .i64)) s.2.2.1, .sl (.sl (.int .i64)) s.2.2.2])] [(1, .box 24 [.int .i64 s.1, .int .i64 s.2.1, .sl (.sl (.int .i64)) s.2.2.1, .sl (.sl (.int .i64)) s.2.2.2])] ?_
 obtain ⟨v0, hv1, h⟩ := Option.bind_eq_some_iff.1 h
 refine zC [] [] (hc_linealref01_far s s hv1) [(1, .bp 1 0), (10, .sl (.sl (.int .i64)) v0)] [(1, .box 24 [.int .i64 s.1, .int .i64 s.2.1, .sl (.sl (.int .i64)) s.2.2.1, .sl (.sl (.int .i64)) s.2.2.2])] ?_
 refine zB [(1, .bp 1 0), (3, .sl (.sl (.int .i64)) v0)] [(1, .box 24 [.int .i64 s.1, .int .i64 s.2.1, .sl (.sl (.int .i64)) s.2.2.1, .sl (.sl (.int .i64)) s.2.2.2])] ?_
 refine zo ?_
 refine zB [(1, .bp 1 0), (3, .sl (.sl (.int .i64)) v0), (4, .cv (.slice none 0 0))] [(1, .box 24 [.int .i64 s.1, .int .i64 s.2.1, .sl (.sl (.int .i64)) s.2.2.1, .sl (.sl (.int .i64)) s.2.2.2])] ?_
 refine AW.have1 (fun b3_3 : (List Int) => linealref01_classes_k1 b3_3 = some r) (fun b3_3 => ⟨fr [(4, .own 34)], hpGet [(34, .arr 3 (.int .i64) b3_3)], gt⟩) (fun b3_3 h => ?_) (fun hk_linealref01_classes_k1 => ?_)
 ·as_aux_lemma =>
   unfold linealref01_classes_k1 at h
   refine zo ?_
   refine zB [(2, .own 34)] [(34, .arr 3 (.int .i64) b3_3)] ?_
   refine AW.ret ?_
   obtain rfl := Option.some.inj h
   exact zR [] [] [(2000, 34)]
 ·refine AW.seq ?_
  refine zo ?_
  refine zB [(3, .sl (.sl (.int .i64)) v0), (4, .cv (.slice none 0 0)), (12, .int .i64 s.1), (13, .int .i64 0)] [] ?_
  refine AW.block ?_
  obtain ⟨rv6, hw2, ho3⟩ := Option.bind_eq_some_iff.1 h
  refine AW.loopO (linealref01_classes_b1 s v0) (fun st1 => ⟨fr [(3, .sl (.sl (.int .i64)) v0), (4, .own 34), (12, .int .i64 s.1), (13, .int .i64 st1.2)], hpGet [(34, .arr 3 (.int .i64) st1.1)], gt⟩) ([], 0) hw2 (zL [] [34] []) ?_
  as_aux_lemma =>
   intro st1 x5 h hd4
   unfold linealref01_classes_b1 at h
   refine zo ?_
   refine zB [(3, .sl (.sl (.int .i64)) v0), (4, .own 34), (12, .int .i64 s.1), (13, .int .i64 st1.2), (14, .bool (decide (st1.2 < s.1)))] [(34, .arr 3 (.int .i64) st1.1)] ?_
   refine AW.seq ?_
   refine zQ h (fun hb7 h => ?_) (fun hb7 h => ?_)
   ·refine zk ?_
    refine AW.have1 (fun b3_2 : (List Int) => linealref01_classes_k2 st1 b3_2 = some x5) (fun b3_2 => ⟨fr [(3, .sl (.sl (.int .i64)) v0), (4, .own 34), (12, .int .i64 s.1), (13, .int .i64 st1.2)], hpGet [(34, .arr 3 (.int .i64) b3_2)], gt⟩) (fun b3_2 h => ?_) (fun hk_linealref01_classes_k2 => ?_)
    ·as_aux_lemma =>
      unfold linealref01_classes_k2 at h
      refine AW.ops ?_
      obtain ⟨c8, h⟩ := ck_some.1 h
      refine zA [(3, .sl (.sl (.int .i64)) v0), (4, .own 34), (12, .int .i64 s.1), (13, .int .i64 (st1.2 + 1))] [(34, .arr 3 (.int .i64) b3_2)] ?_
      obtain rfl := Option.some.inj h
      exact ⟨_, rfl, zL [] [] []⟩
    ·refine AW.seq ?_
     refine AW.block ?_
     refine zo ?_
     refine zB [(3, .sl (.sl (.int .i64)) v0), (4, .own 34), (5, .int .i64 st1.2), (12, .int .i64 s.1), (13, .int .i64 st1.2)] [(34, .arr 3 (.int .i64) st1.1)] ?_
     refine zo ?_
     refine zB [(3, .sl (.sl (.int .i64)) v0), (4, .own 34), (5, .int .i64 st1.2), (6, .int .i64 st1.2), (12, .int .i64 s.1), (13, .int .i64 st1.2)] [(34, .arr 3 (.int .i64) st1.1)] ?_
     refine AW.have1 (fun b3 : Int => linealref01_classes_k3 st1 b3 = some x5) (fun b3 => ⟨fr [(3, .sl (.sl (.int .i64)) v0), (4, .own 34), (6, .int .i64 b3), (12, .int .i64 s.1), (13, .int .i64 st1.2)], hpGet [(34, .arr 3 (.int .i64) st1.1)], gt⟩) (fun b3 h => ?_) (fun hk_linealref01_classes_k3 => ?_)
     ·as_aux_lemma =>
       unfold linealref01_classes_k3 at h
       refine AW.ops ?_
       obtain ⟨c9, h⟩ := ck_some.1 h
       refine zA [(3, .sl (.sl (.int .i64)) v0), (4, .own 34), (12, .int .i64 s.1), (13, .int .i64 st1.2)] [(34, .arr 3 (.int .i64) (st1.1 ++ [b3]))] ?_
       refine ablock_n ?_
       refine athen_n ?_
       exact AW.weaken (zL [] [] []) (hk_linealref01_classes_k2 _ h)
     ·refine AW.seq ?_
      refine zo ?_
      refine zB [(3, .sl (.sl (.int .i64)) v0), (4, .own 34), (5, .int .i64 st1.2), (6, .int .i64 st1.2), (7, .int .i64 st1.2), (12, .int .i64 s.1), (13, .int .i64 st1.2)] [(34, .arr 3 (.int .i64) st1.1)] ?_
      refine AW.block ?_
      obtain ⟨rv14, hw10, ho11⟩ := Option.bind_eq_some_iff.1 h
      refine AW.loopO (linealref01_classes_b2 v0 st1) (fun st2 => ⟨fr [(3, .sl (.sl (.int .i64)) v0), (4, .own 34), (5, .int .i64 st1.2), (6, .int .i64 st2.1), (7, .int .i64 st2.2), (12, .int .i64 s.1), (13, .int .i64 st1.2)], hpGet [(34, .arr 3 (.int .i64) st1.1)], gt⟩) (st1.2, st1.2) hw10 (zL [] [] []) ?_
      as_aux_lemma =>
       intro st2 x13 h hd12
       unfold linealref01_classes_b2 at h
       refine AW.seq ?_
       refine zo ?_
       refine zB [(3, .sl (.sl (.int .i64)) v0), (4, .own 34), (5, .int .i64 st1.2), (6, .int .i64 st2.1), (7, .int .i64 st2.2), (12, .int .i64 s.1), (13, .int .i64 st1.2), (19, .bool (decide (0 ≤ st2.2)))] [(34, .arr 3 (.int .i64) st1.1)] ?_
       refine zQ h (fun hb15 h => ?_) (fun hb15 h => ?_)
       ·refine zk ?_
        refine AW.seq ?_
        refine AW.block ?_
        refine zo ?_
        obtain ⟨c16, h⟩ := ck_some.1 h
        obtain ⟨c17, h⟩ := ck_some.1 h
        obtain ⟨c18, h⟩ := ck_some.1 h
        obtain ⟨c19, h⟩ := ck_some.1 h
        refine zB [(3, .sl (.sl (.int .i64)) v0), (4, .own 34), (5, .int .i64 st1.2), (6, .int .i64 st2.1), (7, .int .i64 st2.2), (12, .int .i64 s.1), (13, .int .i64 st1.2), (29, .bool (decide (((v0.getD st1.2.toNat []).getD st2.2.toNat 0) = 0)))] [(34, .arr 3 (.int .i64) st1.1)] ?_
        refine zQ h (fun hb20 h => ?_) (fun hb20 h => ?_)
        ·refine AW.ops ?_
         refine zA [(3, .sl (.sl (.int .i64)) v0), (4, .own 34), (5, .int .i64 st1.2), (6, .int .i64 st2.2), (7, .int .i64 st2.2), (12, .int .i64 s.1), (13, .int .i64 st1.2)] [(34, .arr 3 (.int .i64) st1.1)] ?_
         refine ablock_n ?_
         refine athen_n ?_
         refine AW.ops ?_
         obtain ⟨c21, h⟩ := ck_some.1 h
         refine zA [(3, .sl (.sl (.int .i64)) v0), (4, .own 34), (5, .int .i64 st1.2), (6, .int .i64 st2.2), (7, .int .i64 (st2.2 - 1)), (12, .int .i64 s.1), (13, .int .i64 st1.2)] [(34, .arr 3 (.int .i64) st1.1)] ?_
         obtain rfl := Option.some.inj h
         exact ⟨_, rfl, zL [] [] []⟩
        ·refine zm ?_
         refine athen_n ?_
         refine AW.ops ?_
         obtain ⟨c22, h⟩ := ck_some.1 h
         refine zA [(3, .sl (.sl (.int .i64)) v0), (4, .own 34), (5, .int .i64 st1.2), (6, .int .i64 st2.1), (7, .int .i64 (st2.2 - 1)), (12, .int .i64 s.1), (13, .int .i64 st1.2)] [(34, .arr 3 (.int .i64) st1.1)] ?_
         obtain rfl := Option.some.inj h
         exact ⟨_, rfl, zL [] [] []⟩
       ·refine AW.exit ?_
        refine athen_e ?_
        obtain rfl := Option.some.inj h
        rw [← hd12 _ rfl] at ho11
        have h := ho11
        refine athen_e ?_
        refine ablock_s ?_
        refine athen_n ?_
        exact AW.weaken (zL [] [] []) (hk_linealref01_classes_k3 _ h)
   ·refine AW.exit ?_
    refine athen_e ?_
    obtain rfl := Option.some.inj h
    rw [← hd4 _ rfl] at ho3
    have h := ho3
    refine athen_e ?_
    refine ablock_s ?_
    refine athen_n ?_
    exact AW.weaken (zL [] [] []) (hk_linealref01_classes_k1 _ h)

theorem hc_linealref01_Classes (s : Int × Int × (List (List Int)) × (List (List Int))) {r : (List Int) × Int} (h : linealref01_Classes s = some r) : HC Try.prog 30 [] [.agg [.int .i64 s.1, .int .i64 s.2.1, .sl (.sl (.int .i64)) s.2.2.1, .sl (.sl (.int .i64)) s.2.2.2]] [(2000, .arr 3 (.int .i64) r.1)] (.tup [.own 2000, .int .i64 r.2]) := by
 unfold linealref01_Classes at h
 refine zH Try.func30 [.tmp 2, .tmp 3] 9 ?_
 refine zo ?_
 refine zB [(1, .bp 1 0)] [(1, .box 24 [.int .i64 s.1, .int .i64 s.2.1, .sl (.sl (.int .i64)) s.2.2.1, .sl (.sl (.int .i64)) s.2.2.2])] ?_
 refine AW.seq ?_
 refine zo ?_
 refine zS 1 [(1, .bp 1 0), (4, .agg [.int .i64 s.1, .int .i64 s.2.1, .sl (.sl (.int .i64)) s.2.2.1, .sl (.sl (.int .i64)) s.2.2.2])] [(1, .box 24 [.int .i64 s.1, .int .i64 s.2.1, .sl (.sl (.int .i64)) s.2.2.1, .sl (.sl (.int .i64)) s.2.2.2])] ?_
 obtain ⟨v0, hv1, h⟩ := Option.bind_eq_some_iff.1 h
 refine zC [] [] (hc_linealref01_Valid s hv1) [(1, .bp 1 0), (5, .bool v0)] [(1, .box 24 [.int .i64 s.1, .int .i64 s.2.1, .sl (.sl (.int .i64)) s.2.2.1, .sl (.sl (.int .i64)) s.2.2.2])] ?_
 refine zB [(1, .bp 1 0), (6, .bool (!v0))] [(1, .box 24 [.int .i64 s.1, .int .i64 s.2.1, .sl (.sl (.int .i64)) s.2.2.1, .sl (.sl (.int .i64)) s.2.2.2])] ?_
 refine zQ h (fun hb2 h => ?_) (fun hb2 h => ?_)
 ·refine zo ?_
  refine zB [(2, .cv (.slice none 0 0)), (3, .int .i64 10)] [] ?_
  refine zr ?_
  obtain rfl := Option.some.inj h
  exact zR [] [2000] []
 ·refine zk ?_
  refine zo ?_
  refine zS 1 [(7, .agg [.int .i64 s.1, .int .i64 s.2.1, .sl (.sl (.int .i64)) s.2.2.1, .sl (.sl (.int .i64)) s.2.2.2])] [] ?_
  obtain ⟨v0_2, hv3, h⟩ := Option.bind_eq_some_iff.1 h
  refine zC [] [] (hc_linealref01_classes s hv3) [(8, .own 18000)] [(18000, .arr 3 (.int .i64) v0_2)] ?_
  refine zB [(2, .own 18000), (3, .int .i64 0)] [(18000, .arr 3 (.int .i64) v0_2)] ?_
  refine AW.ret ?_
  obtain rfl := Option.some.inj h
  exact zR [] [] [(2000, 18000)]

theorem hc_lineallaw01_SpecWords (s : Int × Int × (List (List Int)) × (List (List Int))) (a : Int) (b : Int) {r : Bool} (h : lineallaw01_SpecWords s a b = some r) : HC Try.prog 4 [] [.agg [.int .i64 s.1, .int .i64 s.2.1, .sl (.sl (.int .i64)) s.2.2.1, .sl (.sl (.int .i64)) s.2.2.2], .int .i64 a, .int .i64 b] [] (.bool r) := by
 unfold lineallaw01_SpecWords at h
 refine zH Try.func4 [.tmp 6] 86 ?_
 refine zo ?_
 refine zB [(1, .int .i64 a), (2, .int .i64 b), (3, .bp 3 0)] [(3, .box 24 [.int .i64 s.1, .int .i64 s.2.1, .sl (.sl (.int .i64)) s.2.2.1, .sl (.sl (.int .i64)) s.2.2.2])] ?_
 refine AW.seq ?_
 refine zo ?_
 refine zS 1 [(1, .int .i64 a), (2, .int .i64 b), (3, .bp 3 0), (15, .agg [.int .i64 s.1, .int .i64 s.2.1, .sl (.sl (.int .i64)) s.2.2.1, .sl (.sl (.int .i64)) s.2.2.2])] [(3, .box 24 [.int .i64 s.1, .int .i64 s.2.1, .sl (.sl (.int .i64)) s.2.2.1, .sl (.sl (.int .i64)) s.2.2.2])] ?_
 obtain ⟨v0, hv1, h⟩ := Option.bind_eq_some_iff.1 h
 refine zC [] [] (hc_lineallaw01_Long s hv1) [(1, .int .i64 a), (2, .int .i64 b), (3, .bp 3 0), (16, .bool v0)] [(3, .box 24 [.int .i64 s.1, .int .i64 s.2.1, .sl (.sl (.int .i64)) s.2.2.1, .sl (.sl (.int .i64)) s.2.2.2])] ?_
 refine zB [(1, .int .i64 a), (2, .int .i64 b), (3, .bp 3 0), (16, .bool v0)] [(3, .box 24 [.int .i64 s.1, .int .i64 s.2.1, .sl (.sl (.int .i64)) s.2.2.1, .sl (.sl (.int .i64)) s.2.2.2])] ?_
 refine zQ h (fun hb2 h => ?_) (fun hb2 h => ?_)
 ·refine zo ?_
  obtain ⟨v0_2, hv3, h⟩ := Option.bind_eq_some_iff.1 h
  refine zC [] [] (hc_lineallaw01_Awake hv3) [(17, .bool v0_2)] [] ?_
  refine zB [(6, .bool v0_2)] [] ?_
  refine zr ?_
  obtain rfl := Option.some.inj h
  exact zR [] [] []
 ·refine zk ?_
  refine zo ?_
  refine zS 3 [(1, .int .i64 a), (2, .int .i64 b), (3, .bp 3 0), (19, .agg [.int .i64 s.1, .int .i64 s.2.1, .sl (.sl (.int .i64)) s.2.2.1, .sl (.sl (.int .i64)) s.2.2.2]), (20, .int .i64 a), (21, .int .i64 b)] [(3, .box 24 [.int .i64 s.1, .int .i64 s.2.1, .sl (.sl (.int .i64)) s.2.2.1, .sl (.sl (.int .i64)) s.2.2.2])] ?_
  obtain ⟨v0_3, hv4, h⟩ := Option.bind_eq_some_iff.1 h
  refine zC [] [] (hc_spec_Same s a b hv4) [(1, .int .i64 a), (2, .int .i64 b), (3, .bp 3 0), (22, .tup [.bool v0_3.1, .int .i64 v0_3.2])] [(3, .box 24 [.int .i64 s.1, .int .i64 s.2.1, .sl (.sl (.int .i64)) s.2.2.1, .sl (.sl (.int .i64)) s.2.2.2])] ?_
  refine zB [(1, .int .i64 a), (2, .int .i64 b), (3, .bp 3 0), (7, .bool v0_3.1), (8, .int .i64 v0_3.2)] [(3, .box 24 [.int .i64 s.1, .int .i64 s.2.1, .sl (.sl (.int .i64)) s.2.2.1, .sl (.sl (.int .i64)) s.2.2.2])] ?_
  refine zo ?_
  refine zS 3 [(1, .int .i64 a), (2, .int .i64 b), (3, .bp 3 0), (7, .bool v0_3.1), (8, .int .i64 v0_3.2), (26, .agg [.int .i64 s.1, .int .i64 s.2.1, .sl (.sl (.int .i64)) s.2.2.1, .sl (.sl (.int .i64)) s.2.2.2]), (27, .int .i64 a), (28, .int .i64 b)] [(3, .box 24 [.int .i64 s.1, .int .i64 s.2.1, .sl (.sl (.int .i64)) s.2.2.1, .sl (.sl (.int .i64)) s.2.2.2])] ?_
  obtain ⟨v0_4, hv5, h⟩ := Option.bind_eq_some_iff.1 h
  refine zC [] [] (hc_linealref01_Same s a b hv5) [(1, .int .i64 a), (2, .int .i64 b), (3, .bp 3 0), (7, .bool v0_3.1), (8, .int .i64 v0_3.2), (29, .tup [.bool v0_4.1, .int .i64 v0_4.2])] [(3, .box 24 [.int .i64 s.1, .int .i64 s.2.1, .sl (.sl (.int .i64)) s.2.2.1, .sl (.sl (.int .i64)) s.2.2.2])] ?_
  refine zB [(1, .int .i64 a), (2, .int .i64 b), (3, .bp 3 0), (7, .bool v0_3.1), (8, .int .i64 v0_3.2), (9, .bool v0_4.1), (10, .int .i64 v0_4.2)] [(3, .box 24 [.int .i64 s.1, .int .i64 s.2.1, .sl (.sl (.int .i64)) s.2.2.1, .sl (.sl (.int .i64)) s.2.2.2])] ?_
  refine zo ?_
  refine zS 3 [(1, .int .i64 a), (2, .int .i64 b), (3, .bp 3 0), (7, .bool v0_3.1), (8, .int .i64 v0_3.2), (9, .bool v0_4.1), (10, .int .i64 v0_4.2), (33, .agg [.int .i64 s.1, .int .i64 s.2.1, .sl (.sl (.int .i64)) s.2.2.1, .sl (.sl (.int .i64)) s.2.2.2]), (34, .int .i64 a), (35, .int .i64 b)] [(3, .box 24 [.int .i64 s.1, .int .i64 s.2.1, .sl (.sl (.int .i64)) s.2.2.1, .sl (.sl (.int .i64)) s.2.2.2])] ?_
  obtain ⟨v0_5, hv6, h⟩ := Option.bind_eq_some_iff.1 h
  refine zC [] [] (hc_spec_Word s a b hv6) [(1, .int .i64 a), (2, .int .i64 b), (3, .bp 3 0), (7, .bool v0_3.1), (8, .int .i64 v0_3.2), (9, .bool v0_4.1), (10, .int .i64 v0_4.2), (36, .tup [.own 46000, .int .i64 v0_5.2])] [(3, .box 24 [.int .i64 s.1, .int .i64 s.2.1, .sl (.sl (.int .i64)) s.2.2.1, .sl (.sl (.int .i64)) s.2.2.2]), (46000, .arr 3 (.int .i64) v0_5.1)] ?_
  refine zB [(1, .int .i64 a), (2, .int .i64 b), (3, .bp 3 0), (7, .bool v0_3.1), (8, .int .i64 v0_3.2), (9, .bool v0_4.1), (10, .int .i64 v0_4.2), (11, .own 46000), (12, .int .i64 v0_5.2)] [(3, .box 24 [.int .i64 s.1, .int .i64 s.2.1, .sl (.sl (.int .i64)) s.2.2.1, .sl (.sl (.int .i64)) s.2.2.2]), (46000, .arr 3 (.int .i64) v0_5.1)] ?_
  refine zo ?_
  refine zS 3 [(3, .bp 3 0), (7, .bool v0_3.1), (8, .int .i64 v0_3.2), (9, .bool v0_4.1), (10, .int .i64 v0_4.2), (11, .own 46000), (12, .int .i64 v0_5.2), (40, .agg [.int .i64 s.1, .int .i64 s.2.1, .sl (.sl (.int .i64)) s.2.2.1, .sl (.sl (.int .i64)) s.2.2.2]), (41, .int .i64 a), (42, .int .i64 b)] [(3, .box 24 [.int .i64 s.1, .int .i64 s.2.1, .sl (.sl (.int .i64)) s.2.2.1, .sl (.sl (.int .i64)) s.2.2.2]), (46000, .arr 3 (.int .i64) v0_5.1)] ?_
  obtain ⟨v0_6, hv7, h⟩ := Option.bind_eq_some_iff.1 h
  refine zC [] [] (hc_linealref01_Word s a b hv7) [(3, .bp 3 0), (7, .bool v0_3.1), (8, .int .i64 v0_3.2), (9, .bool v0_4.1), (10, .int .i64 v0_4.2), (11, .own 46000), (12, .int .i64 v0_5.2), (43, .tup [.own 53000, .int .i64 v0_6.2])] [(3, .box 24 [.int .i64 s.1, .int .i64 s.2.1, .sl (.sl (.int .i64)) s.2.2.1, .sl (.sl (.int .i64)) s.2.2.2]), (46000, .arr 3 (.int .i64) v0_5.1), (53000, .arr 3 (.int .i64) v0_6.1)] ?_
  refine zB [(3, .bp 3 0), (7, .bool v0_3.1), (8, .int .i64 v0_3.2), (9, .bool v0_4.1), (10, .int .i64 v0_4.2), (11, .own 46000), (12, .int .i64 v0_5.2), (13, .own 53000), (14, .int .i64 v0_6.2)] [(3, .box 24 [.int .i64 s.1, .int .i64 s.2.1, .sl (.sl (.int .i64)) s.2.2.1, .sl (.sl (.int .i64)) s.2.2.2]), (46000, .arr 3 (.int .i64) v0_5.1), (53000, .arr 3 (.int .i64) v0_6.1)] ?_
  refine AW.seq ?_
  refine zo ?_
  refine zS 4 [(3, .bp 3 0), (8, .int .i64 v0_3.2), (10, .int .i64 v0_4.2), (11, .own 46000), (12, .int .i64 v0_5.2), (13, .own 53000), (14, .int .i64 v0_6.2), (49, .bool ((v0_3.1 == v0_4.1) != true))] [(3, .box 24 [.int .i64 s.1, .int .i64 s.2.1, .sl (.sl (.int .i64)) s.2.2.1, .sl (.sl (.int .i64)) s.2.2.2]), (46000, .arr 3 (.int .i64) v0_5.1), (53000, .arr 3 (.int .i64) v0_6.1)] ?_
  rcases zI h with ⟨hb8, h⟩ | ⟨hb8, h⟩
  ·refine zS 6 [(3, .bp 3 0), (12, .int .i64 v0_5.2), (13, .own 53000), (14, .int .i64 v0_6.2), (54, .bool true), (55, .cv (undef))] [(3, .box 24 [.int .i64 s.1, .int .i64 s.2.1, .sl (.sl (.int .i64)) s.2.2.1, .sl (.sl (.int .i64)) s.2.2.2]), (53000, .arr 3 (.int .i64) v0_6.1)] ?_
   refine zS 6 [(3, .bp 3 0), (14, .int .i64 v0_6.2), (60, .bool true), (61, .cv (undef))] [(3, .box 24 [.int .i64 s.1, .int .i64 s.2.1, .sl (.sl (.int .i64)) s.2.2.1, .sl (.sl (.int .i64)) s.2.2.2])] ?_
   refine zB [(3, .bp 3 0), (64, .bool true)] [(3, .box 24 [.int .i64 s.1, .int .i64 s.2.1, .sl (.sl (.int .i64)) s.2.2.1, .sl (.sl (.int .i64)) s.2.2.2])] ?_
   refine AW.cond (b := true) rfl (fun _ => ?_) (fun hb9 => by cases hb9)
   refine zo ?_
   refine zB [(6, .bool false)] [] ?_
   refine zr ?_
   obtain rfl := Option.some.inj h
   exact zR [] [] []
  ·refine zS 5 [(3, .bp 3 0), (11, .own 46000), (12, .int .i64 v0_5.2), (13, .own 53000), (14, .int .i64 v0_6.2), (54, .bool (!(decide (v0_3.2 = v0_4.2))))] [(3, .box 24 [.int .i64 s.1, .int .i64 s.2.1, .sl (.sl (.int .i64)) s.2.2.1, .sl (.sl (.int .i64)) s.2.2.2]), (46000, .arr 3 (.int .i64) v0_5.1), (53000, .arr 3 (.int .i64) v0_6.1)] ?_
   rcases zI h with ⟨hb10, h⟩ | ⟨hb10, h⟩
   ·refine zS 4 [(3, .bp 3 0), (12, .int .i64 v0_5.2), (14, .int .i64 v0_6.2), (54, .bool true), (58, .cv (undef))] [(3, .box 24 [.int .i64 s.1, .int .i64 s.2.1, .sl (.sl (.int .i64)) s.2.2.1, .sl (.sl (.int .i64)) s.2.2.2])] ?_
    refine zB [(3, .bp 3 0), (64, .bool true)] [(3, .box 24 [.int .i64 s.1, .int .i64 s.2.1, .sl (.sl (.int .i64)) s.2.2.1, .sl (.sl (.int .i64)) s.2.2.2])] ?_
    refine AW.cond (b := true) rfl (fun _ => ?_) (fun hb11 => by cases hb11)
    refine zo ?_
    refine zB [(6, .bool false)] [] ?_
    refine zr ?_
    obtain rfl := Option.some.inj h
    exact zR [] [] []
   ·refine zS 2 [(3, .bp 3 0), (12, .int .i64 v0_5.2), (14, .int .i64 v0_6.2), (54, .bool false), (55, .own 46000), (56, .own 53000)] [(3, .box 24 [.int .i64 s.1, .int .i64 s.2.1, .sl (.sl (.int .i64)) s.2.2.1, .sl (.sl (.int .i64)) s.2.2.2]), (46000, .arr 3 (.int .i64) v0_5.1), (53000, .arr 3 (.int .i64) v0_6.1)] ?_
    obtain ⟨v0_7, hv12, h⟩ := Option.bind_eq_some_iff.1 h
    refine zG [46000, 53000] [] (hc_linealref01_SameInts v0_5.1 v0_6.1 hv12) [(3, .bp 3 0), (12, .int .i64 v0_5.2), (14, .int .i64 v0_6.2), (54, .bool false), (57, .bool v0_7)] [(3, .box 24 [.int .i64 s.1, .int .i64 s.2.1, .sl (.sl (.int .i64)) s.2.2.1, .sl (.sl (.int .i64)) s.2.2.2])] ?_
    refine zS 3 [(3, .bp 3 0), (12, .int .i64 v0_5.2), (14, .int .i64 v0_6.2), (60, .bool (!v0_7))] [(3, .box 24 [.int .i64 s.1, .int .i64 s.2.1, .sl (.sl (.int .i64)) s.2.2.1, .sl (.sl (.int .i64)) s.2.2.2])] ?_
    rcases zI h with ⟨hb13, h⟩ | ⟨hb13, h⟩
    ·refine zB [(3, .bp 3 0), (64, .bool true)] [(3, .box 24 [.int .i64 s.1, .int .i64 s.2.1, .sl (.sl (.int .i64)) s.2.2.1, .sl (.sl (.int .i64)) s.2.2.2])] ?_
     refine AW.cond (b := true) rfl (fun _ => ?_) (fun hb14 => by cases hb14)
     refine zo ?_
     refine zB [(6, .bool false)] [] ?_
     refine zr ?_
     obtain rfl := Option.some.inj h
     exact zR [] [] []
    ·refine zB [(3, .bp 3 0), (64, .bool (!(decide (v0_5.2 = v0_6.2))))] [(3, .box 24 [.int .i64 s.1, .int .i64 s.2.1, .sl (.sl (.int .i64)) s.2.2.1, .sl (.sl (.int .i64)) s.2.2.2])] ?_
     refine zQ h (fun hb15 h => ?_) (fun hb15 h => ?_)
     ·refine zo ?_
      refine zB [(6, .bool false)] [] ?_
      refine zr ?_
      obtain rfl := Option.some.inj h
      exact zR [] [] []
     ·refine zk ?_
      refine zo ?_
      refine zS 1 [(3, .bp 3 0), (66, .agg [.int .i64 s.1, .int .i64 s.2.1, .sl (.sl (.int .i64)) s.2.2.1, .sl (.sl (.int .i64)) s.2.2.2])] [(3, .box 24 [.int .i64 s.1, .int .i64 s.2.1, .sl (.sl (.int .i64)) s.2.2.1, .sl (.sl (.int .i64)) s.2.2.2])] ?_
      obtain ⟨v0_8, hv16, h⟩ := Option.bind_eq_some_iff.1 h
      refine zC [] [] (hc_spec_Classes s hv16) [(3, .bp 3 0), (67, .tup [.own 77000, .int .i64 v0_8.2])] [(3, .box 24 [.int .i64 s.1, .int .i64 s.2.1, .sl (.sl (.int .i64)) s.2.2.1, .sl (.sl (.int .i64)) s.2.2.2]), (77000, .arr 3 (.int .i64) v0_8.1)] ?_
      refine zB [(3, .bp 3 0), (8, .int .i64 v0_8.2), (11, .own 77000)] [(3, .box 24 [.int .i64 s.1, .int .i64 s.2.1, .sl (.sl (.int .i64)) s.2.2.1, .sl (.sl (.int .i64)) s.2.2.2]), (77000, .arr 3 (.int .i64) v0_8.1)] ?_
      refine zo ?_
      refine zS 1 [(8, .int .i64 v0_8.2), (11, .own 77000), (71, .agg [.int .i64 s.1, .int .i64 s.2.1, .sl (.sl (.int .i64)) s.2.2.1, .sl (.sl (.int .i64)) s.2.2.2])] [(77000, .arr 3 (.int .i64) v0_8.1)] ?_
      obtain ⟨v0_9, hv17, h⟩ := Option.bind_eq_some_iff.1 h
      refine zC [] [] (hc_linealref01_Classes s hv17) [(8, .int .i64 v0_8.2), (11, .own 77000), (72, .tup [.own 82000, .int .i64 v0_9.2])] [(77000, .arr 3 (.int .i64) v0_8.1), (82000, .arr 3 (.int .i64) v0_9.1)] ?_
      refine zB [(8, .int .i64 v0_8.2), (10, .int .i64 v0_9.2), (11, .own 77000), (13, .own 82000)] [(77000, .arr 3 (.int .i64) v0_8.1), (82000, .arr 3 (.int .i64) v0_9.1)] ?_
      refine zo ?_
      refine zS 2 [(8, .int .i64 v0_8.2), (10, .int .i64 v0_9.2), (75, .own 77000), (76, .own 82000)] [(77000, .arr 3 (.int .i64) v0_8.1), (82000, .arr 3 (.int .i64) v0_9.1)] ?_
      obtain ⟨v0_10, hv18, h⟩ := Option.bind_eq_some_iff.1 h
      refine zC [77000, 82000] [] (hc_linealref01_SameInts v0_8.1 v0_9.1 hv18) [(8, .int .i64 v0_8.2), (10, .int .i64 v0_9.2), (77, .bool v0_10)] [] ?_
      refine zS 1 [(8, .int .i64 v0_8.2), (10, .int .i64 v0_9.2), (78, .bool v0_10)] [] ?_
      rcases zI h with ⟨hb19, h⟩ | ⟨hb19, h⟩
      ·refine zS 5 [(83, .bool (decide (v0_8.2 = v0_9.2)))] [] ?_
       rcases zI h with ⟨hb20, h⟩ | ⟨hb20, h⟩
       ·refine zT [(83, .bool true)] [] gt ?_
        obtain ⟨v0_11, hv21, h⟩ := Option.bind_eq_some_iff.1 h
        refine zG [] [] (hc_lineallaw01_Awake hv21) [(83, .bool true), (84, .bool v0_11)] [] ?_
        refine zB [(6, .bool v0_11)] [] ?_
        refine AW.ret ?_
        obtain rfl := Option.some.inj h
        exact zR [] [] []
       ·refine zB [(6, .bool false)] [] ?_
        refine AW.ret ?_
        obtain rfl := Option.some.inj h
        exact zR [] [] []
      ·refine zS 6 [(83, .bool false), (84, .cv (undef))] [] ?_
       refine zB [(6, .bool false)] [] ?_
       refine AW.ret ?_
       obtain rfl := Option.some.inj h
       exact zR [] [] []

end Go.Proofs.Ytcgflignbhmoaaa
