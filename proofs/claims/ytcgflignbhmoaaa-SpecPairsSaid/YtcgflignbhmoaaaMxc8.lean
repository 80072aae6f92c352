/-
  Made by wip/tool/dc.py out of the print of the program: contracts.
-/
import Derived.Test.YtcgflignbhmoaaaQp
import Derived.Test.YtcgflignbhmoaaaShs
import Derived.Test.YtcgflignbhmoaaaMxc2
import Derived.Test.YtcgflignbhmoaaaMxc4
namespace Go.Proofs.Ytcgflignbhmoaaa
open Go.RowKit

set_option linter.unusedSimpArgs false
set_option linter.unusedVariables false
set_option linter.constructorNameAsVariable false

set_option maxRecDepth 100000
set_option maxHeartbeats 2000000

theorem hc_spec_Unlike (s : Int × Int × (List (List Int)) × (List (List Int))) (t : Int × Int × (List (List Int)) × (List (List Int))) {r : (List Int) × Int} (h : spec_Unlike s t = some r) : HC Try.prog 40 [] [.agg [.int .i64 s.1, .int .i64 s.2.1, .sl (.sl (.int .i64)) s.2.2.1, .sl (.sl (.int .i64)) s.2.2.2], .agg [.int .i64 t.1, .int .i64 t.2.1, .sl (.sl (.int .i64)) t.2.2.1, .sl (.sl (.int .i64)) t.2.2.2]] [(2000, .arr 3 (.int .i64) r.1)] (.tup [.own 2000, .int .i64 r.2]) := by
 unfold spec_Unlike at h
 refine zH Try.func40 [.tmp 4, .tmp 5] 31 ?_
 refine zo ?_
 refine zB [(2, .bp 2 0), (3, .bp 3 0)] [(2, .box 24 [.int .i64 s.1, .int .i64 s.2.1, .sl (.sl (.int .i64)) s.2.2.1, .sl (.sl (.int .i64)) s.2.2.2]), (3, .box 24 [.int .i64 t.1, .int .i64 t.2.1, .sl (.sl (.int .i64)) t.2.2.1, .sl (.sl (.int .i64)) t.2.2.2])] ?_
 refine AW.seq ?_
 refine zo ?_
 refine zS 1 [(2, .bp 2 0), (3, .bp 3 0), (8, .agg [.int .i64 s.1, .int .i64 s.2.1, .sl (.sl (.int .i64)) s.2.2.1, .sl (.sl (.int .i64)) s.2.2.2])] [(2, .box 24 [.int .i64 s.1, .int .i64 s.2.1, .sl (.sl (.int .i64)) s.2.2.1, .sl (.sl (.int .i64)) s.2.2.2]), (3, .box 24 [.int .i64 t.1, .int .i64 t.2.1, .sl (.sl (.int .i64)) t.2.2.1, .sl (.sl (.int .i64)) t.2.2.2])] ?_
 obtain ⟨v0, hv1, h⟩ := Option.bind_eq_some_iff.1 h
 refine zC [] [] (hc_spec_Valid s hv1) [(2, .bp 2 0), (3, .bp 3 0), (9, .bool v0)] [(2, .box 24 [.int .i64 s.1, .int .i64 s.2.1, .sl (.sl (.int .i64)) s.2.2.1, .sl (.sl (.int .i64)) s.2.2.2]), (3, .box 24 [.int .i64 t.1, .int .i64 t.2.1, .sl (.sl (.int .i64)) t.2.2.1, .sl (.sl (.int .i64)) t.2.2.2])] ?_
 refine zS 2 [(2, .bp 2 0), (3, .bp 3 0), (11, .bool (!v0))] [(2, .box 24 [.int .i64 s.1, .int .i64 s.2.1, .sl (.sl (.int .i64)) s.2.2.1, .sl (.sl (.int .i64)) s.2.2.2]), (3, .box 24 [.int .i64 t.1, .int .i64 t.2.1, .sl (.sl (.int .i64)) t.2.2.1, .sl (.sl (.int .i64)) t.2.2.2])] ?_
 rcases zI h with ⟨hb2, h⟩ | ⟨hb2, h⟩
 ·refine zB [(2, .bp 2 0), (3, .bp 3 0), (15, .bool true)] [(2, .box 24 [.int .i64 s.1, .int .i64 s.2.1, .sl (.sl (.int .i64)) s.2.2.1, .sl (.sl (.int .i64)) s.2.2.2]), (3, .box 24 [.int .i64 t.1, .int .i64 t.2.1, .sl (.sl (.int .i64)) t.2.2.1, .sl (.sl (.int .i64)) t.2.2.2])] ?_
  refine AW.cond (b := true) rfl (fun _ => ?_) (fun hb3 => by cases hb3)
  refine zo ?_
  refine zB [(4, .cv (.slice none 0 0)), (5, .int .i64 10)] [] ?_
  refine zr ?_
  obtain rfl := Option.some.inj h
  exact zR [] [2000] []
 ·refine zS 1 [(2, .bp 2 0), (3, .bp 3 0), (11, .bool false), (12, .agg [.int .i64 t.1, .int .i64 t.2.1, .sl (.sl (.int .i64)) t.2.2.1, .sl (.sl (.int .i64)) t.2.2.2])] [(2, .box 24 [.int .i64 s.1, .int .i64 s.2.1, .sl (.sl (.int .i64)) s.2.2.1, .sl (.sl (.int .i64)) s.2.2.2]), (3, .box 24 [.int .i64 t.1, .int .i64 t.2.1, .sl (.sl (.int .i64)) t.2.2.1, .sl (.sl (.int .i64)) t.2.2.2])] ?_
  obtain ⟨v0_2, hv4, h⟩ := Option.bind_eq_some_iff.1 h
  refine zG [] [] (hc_spec_Valid t hv4) [(2, .bp 2 0), (3, .bp 3 0), (11, .bool false), (13, .bool v0_2)] [(2, .box 24 [.int .i64 s.1, .int .i64 s.2.1, .sl (.sl (.int .i64)) s.2.2.1, .sl (.sl (.int .i64)) s.2.2.2]), (3, .box 24 [.int .i64 t.1, .int .i64 t.2.1, .sl (.sl (.int .i64)) t.2.2.1, .sl (.sl (.int .i64)) t.2.2.2])] ?_
  refine zB [(2, .bp 2 0), (3, .bp 3 0), (15, .bool (!v0_2))] [(2, .box 24 [.int .i64 s.1, .int .i64 s.2.1, .sl (.sl (.int .i64)) s.2.2.1, .sl (.sl (.int .i64)) s.2.2.2]), (3, .box 24 [.int .i64 t.1, .int .i64 t.2.1, .sl (.sl (.int .i64)) t.2.2.1, .sl (.sl (.int .i64)) t.2.2.2])] ?_
  refine zQ h (fun hb5 h => ?_) (fun hb5 h => ?_)
  ·refine zo ?_
   refine zB [(4, .cv (.slice none 0 0)), (5, .int .i64 10)] [] ?_
   refine zr ?_
   obtain rfl := Option.some.inj h
   exact zR [] [2000] []
  ·refine zk ?_
   refine AW.seq ?_
   refine zo ?_
   refine zB [(2, .bp 2 0), (3, .bp 3 0), (20, .bool (!(decide (s.2.1 = t.2.1))))] [(2, .box 24 [.int .i64 s.1, .int .i64 s.2.1, .sl (.sl (.int .i64)) s.2.2.1, .sl (.sl (.int .i64)) s.2.2.2]), (3, .box 24 [.int .i64 t.1, .int .i64 t.2.1, .sl (.sl (.int .i64)) t.2.2.1, .sl (.sl (.int .i64)) t.2.2.2])] ?_
   refine zQ h (fun hb6 h => ?_) (fun hb6 h => ?_)
   ·refine zo ?_
    refine zB [(4, .cv (.slice none 0 0)), (5, .int .i64 2)] [] ?_
    refine zr ?_
    obtain rfl := Option.some.inj h
    exact zR [] [2000] []
   ·refine zk ?_
    refine zo ?_
    refine zS 3 [(22, .agg [.int .i64 s.1, .int .i64 s.2.1, .sl (.sl (.int .i64)) s.2.2.1, .sl (.sl (.int .i64)) s.2.2.2]), (23, .agg [.int .i64 t.1, .int .i64 t.2.1, .sl (.sl (.int .i64)) t.2.2.1, .sl (.sl (.int .i64)) t.2.2.2]), (24, .agg [.int .i64 0, .int .i64 0])] [] ?_
    obtain ⟨v0_3, hv7, h⟩ := Option.bind_eq_some_iff.1 h
    refine zC [] [] (hc_spec_apart s t (0, 0) hv7) [(25, .tup [.own 35000, .bool v0_3.2])] [(35000, .arr 3 (.int .i64) v0_3.1)] ?_
    refine zB [(6, .own 35000), (7, .bool v0_3.2)] [(35000, .arr 3 (.int .i64) v0_3.1)] ?_
    refine AW.seq ?_
    refine zo ?_
    refine zB [(6, .own 35000), (29, .bool (!v0_3.2))] [(35000, .arr 3 (.int .i64) v0_3.1)] ?_
    refine zQ h (fun hb8 h => ?_) (fun hb8 h => ?_)
    ·refine zo ?_
     refine zB [(4, .cv (.slice none 0 0)), (5, .int .i64 5)] [] ?_
     refine zr ?_
     obtain rfl := Option.some.inj h
     exact zR [] [2000] []
    ·refine zk ?_
     refine zo ?_
     refine zB [(4, .own 35000), (5, .int .i64 0)] [(35000, .arr 3 (.int .i64) v0_3.1)] ?_
     refine AW.ret ?_
     obtain rfl := Option.some.inj h
     exact zR [] [] [(2000, 35000)]

theorem hc_spec_Alike (s : Int × Int × (List (List Int)) × (List (List Int))) (t : Int × Int × (List (List Int)) × (List (List Int))) {r : Bool × Int} (h : spec_Alike s t = some r) : HC Try.prog 38 [] [.agg [.int .i64 s.1, .int .i64 s.2.1, .sl (.sl (.int .i64)) s.2.2.1, .sl (.sl (.int .i64)) s.2.2.2], .agg [.int .i64 t.1, .int .i64 t.2.1, .sl (.sl (.int .i64)) t.2.2.1, .sl (.sl (.int .i64)) t.2.2.2]] [] (.tup [.bool r.1, .int .i64 r.2]) := by
 unfold spec_Alike at h
 refine zH Try.func38 [.tmp 4, .tmp 5] 19 ?_
 refine zo ?_
 refine zB [(2, .bp 2 0), (3, .bp 3 0)] [(2, .box 24 [.int .i64 s.1, .int .i64 s.2.1, .sl (.sl (.int .i64)) s.2.2.1, .sl (.sl (.int .i64)) s.2.2.2]), (3, .box 24 [.int .i64 t.1, .int .i64 t.2.1, .sl (.sl (.int .i64)) t.2.2.1, .sl (.sl (.int .i64)) t.2.2.2])] ?_
 refine zo ?_
 refine zS 2 [(9, .agg [.int .i64 s.1, .int .i64 s.2.1, .sl (.sl (.int .i64)) s.2.2.1, .sl (.sl (.int .i64)) s.2.2.2]), (10, .agg [.int .i64 t.1, .int .i64 t.2.1, .sl (.sl (.int .i64)) t.2.2.1, .sl (.sl (.int .i64)) t.2.2.2])] [] ?_
 obtain ⟨v0, hv1, h⟩ := Option.bind_eq_some_iff.1 h
 refine zC [] [] (hc_spec_Unlike s t hv1) [(11, .tup [.own 21000, .int .i64 v0.2])] [(21000, .arr 3 (.int .i64) v0.1)] ?_
 refine zB [(7, .int .i64 v0.2)] [] ?_
 refine AW.seq ?_
 refine zo ?_
 refine zB [(7, .int .i64 v0.2), (15, .bool (decide (v0.2 = 10)))] [] ?_
 refine zQ h (fun hb2 h => ?_) (fun hb2 h => ?_)
 ·refine zo ?_
  refine zB [(4, .bool false), (5, .int .i64 v0.2)] [] ?_
  refine zr ?_
  obtain rfl := Option.some.inj h
  exact zR [] [] []
 ·refine zk ?_
  refine zo ?_
  refine zB [(4, .bool (decide (v0.2 = 5))), (5, .int .i64 0)] [] ?_
  refine AW.ret ?_
  obtain rfl := Option.some.inj h
  exact zR [] [] []

end Go.Proofs.Ytcgflignbhmoaaa
