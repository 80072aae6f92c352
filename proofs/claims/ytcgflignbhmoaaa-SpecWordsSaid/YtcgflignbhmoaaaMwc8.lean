/-
  Made by wip/tool/dc.py out of the print of the program: contracts.
-/
import Derived.Test.YtcgflignbhmoaaaQp
import Derived.Test.YtcgflignbhmoaaaShs
import Derived.Test.YtcgflignbhmoaaaMwc5
import Derived.Test.YtcgflignbhmoaaaMwc7
namespace Go.Proofs.Ytcgflignbhmoaaa
open Go.RowKit

set_option linter.unusedSimpArgs false
set_option linter.unusedVariables false
set_option linter.constructorNameAsVariable false

set_option maxRecDepth 100000
set_option maxHeartbeats 2000000

theorem hc_linealref01_same (s : Int × Int × (List (List Int)) × (List (List Int))) (a : Int) (b : Int) {r : Bool} (h : linealref01_same s a b = some r) : HC Try.prog 68 [] [.agg [.int .i64 s.1, .int .i64 s.2.1, .sl (.sl (.int .i64)) s.2.2.1, .sl (.sl (.int .i64)) s.2.2.2], .int .i64 a, .int .i64 b] [] (.bool r) := by
 unfold linealref01_same at h
 refine zH Try.func68 [.tmp 6] 17 ?_
 refine zo ?_
 refine zB [(1, .int .i64 a), (2, .int .i64 b), (3, .bp 3 0)] [(3, .box 24 [.int .i64 s.1, .int .i64 s.2.1, .sl (.sl (.int .i64)) s.2.2.1, .sl (.sl (.int .i64)) s.2.2.2])] ?_
 refine zo ?_
 refine zS 2 [(1, .int .i64 a), (2, .int .i64 b), (7, .agg [.int .i64 s.1, .int .i64 s.2.1, .sl (.sl (.int .i64)) s.2.2.1, .sl (.sl (.int .i64)) s.2.2.2]), (8, .agg [.int .i64 s.1, .int .i64 s.2.1, .sl (.sl (.int .i64)) s.2.2.1, .sl (.sl (.int .i64)) s.2.2.2])] [] ?_
 obtain ⟨v0, hv1, h⟩ := Option.bind_eq_some_iff.1 h
 refine zC [] [] (hc_linealref01_far s s hv1) [(1, .int .i64 a), (2, .int .i64 b), (9, .sl (.sl (.int .i64)) v0)] [] ?_
 obtain ⟨c2, h⟩ := ck_some.1 h
 obtain ⟨c3, h⟩ := ck_some.1 h
 obtain ⟨c4, h⟩ := ck_some.1 h
 obtain ⟨c5, h⟩ := ck_some.1 h
 refine zB [(6, .bool (decide (((v0.getD a.toNat []).getD b.toNat 0) = 0)))] [] ?_
 refine AW.ret ?_
 obtain rfl := Option.some.inj h
 exact zR [] [] []

theorem hc_linealref01_Same (s : Int × Int × (List (List Int)) × (List (List Int))) (a : Int) (b : Int) {r : Bool × Int} (h : linealref01_Same s a b = some r) : HC Try.prog 26 [] [.agg [.int .i64 s.1, .int .i64 s.2.1, .sl (.sl (.int .i64)) s.2.2.1, .sl (.sl (.int .i64)) s.2.2.2], .int .i64 a, .int .i64 b] [] (.tup [.bool r.1, .int .i64 r.2]) := by
 unfold linealref01_Same at h
 refine zH Try.func26 [.tmp 6, .tmp 7] 20 ?_
 refine zo ?_
 refine zB [(1, .int .i64 a), (2, .int .i64 b), (3, .bp 3 0)] [(3, .box 24 [.int .i64 s.1, .int .i64 s.2.1, .sl (.sl (.int .i64)) s.2.2.1, .sl (.sl (.int .i64)) s.2.2.2])] ?_
 refine AW.seq ?_
 refine zo ?_
 refine zS 3 [(1, .int .i64 a), (2, .int .i64 b), (3, .bp 3 0), (9, .agg [.int .i64 s.1, .int .i64 s.2.1, .sl (.sl (.int .i64)) s.2.2.1, .sl (.sl (.int .i64)) s.2.2.2]), (10, .int .i64 a), (11, .int .i64 b)] [(3, .box 24 [.int .i64 s.1, .int .i64 s.2.1, .sl (.sl (.int .i64)) s.2.2.1, .sl (.sl (.int .i64)) s.2.2.2])] ?_
 obtain ⟨v0, hv1, h⟩ := Option.bind_eq_some_iff.1 h
 refine zC [] [] (hc_linealref01_asked s a b hv1) [(1, .int .i64 a), (2, .int .i64 b), (3, .bp 3 0), (12, .int .i64 v0)] [(3, .box 24 [.int .i64 s.1, .int .i64 s.2.1, .sl (.sl (.int .i64)) s.2.2.1, .sl (.sl (.int .i64)) s.2.2.2])] ?_
 refine zB [(1, .int .i64 a), (2, .int .i64 b), (3, .bp 3 0), (8, .int .i64 v0)] [(3, .box 24 [.int .i64 s.1, .int .i64 s.2.1, .sl (.sl (.int .i64)) s.2.2.1, .sl (.sl (.int .i64)) s.2.2.2])] ?_
 refine zo ?_
 refine zB [(1, .int .i64 a), (2, .int .i64 b), (3, .bp 3 0), (8, .int .i64 v0), (14, .bool (!(decide (v0 = 0))))] [(3, .box 24 [.int .i64 s.1, .int .i64 s.2.1, .sl (.sl (.int .i64)) s.2.2.1, .sl (.sl (.int .i64)) s.2.2.2])] ?_
 refine zQ h (fun hb2 h => ?_) (fun hb2 h => ?_)
 ·refine zo ?_
  refine zB [(6, .bool false), (7, .int .i64 v0)] [] ?_
  refine zr ?_
  obtain rfl := Option.some.inj h
  exact zR [] [] []
 ·refine zk ?_
  refine zo ?_
  refine zS 3 [(16, .agg [.int .i64 s.1, .int .i64 s.2.1, .sl (.sl (.int .i64)) s.2.2.1, .sl (.sl (.int .i64)) s.2.2.2]), (17, .int .i64 a), (18, .int .i64 b)] [] ?_
  obtain ⟨v0_2, hv3, h⟩ := Option.bind_eq_some_iff.1 h
  refine zC [] [] (hc_linealref01_same s a b hv3) [(19, .bool v0_2)] [] ?_
  refine zB [(6, .bool v0_2), (7, .int .i64 0)] [] ?_
  refine AW.ret ?_
  obtain rfl := Option.some.inj h
  exact zR [] [] []

end Go.Proofs.Ytcgflignbhmoaaa
