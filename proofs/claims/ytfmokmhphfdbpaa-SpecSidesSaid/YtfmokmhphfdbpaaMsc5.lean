/-
  Made by wip/tool/dc.py out of the print of the program: contracts.
-/
import Derived.Test.YtfmokmhphfdbpaaQp
import Derived.Test.YtfmokmhphfdbpaaShs
import Derived.Test.YtfmokmhphfdbpaaMsc1
import Derived.Test.YtfmokmhphfdbpaaMsc2
import Derived.Test.YtfmokmhphfdbpaaMsc3
import Derived.Test.YtfmokmhphfdbpaaMsc4
namespace Go.Proofs.Ytfmokmhphfdbpaa
open Go.RowKit

set_option linter.unusedSimpArgs false
set_option linter.unusedVariables false
set_option linter.constructorNameAsVariable false

set_option maxRecDepth 100000
set_option maxHeartbeats 2000000

theorem hc_lineallaw01_SpecSides (s : Int × Int × (List (List Int)) × (List (List Int))) (t : Int × Int × (List (List Int)) × (List (List Int))) (word : List Int) {r : Bool} (h : lineallaw01_SpecSides s t word = some r) : HC Try.prog 13 [] [.agg [.int .i64 s.1, .int .i64 s.2.1, .sl (.sl (.int .i64)) s.2.2.1, .sl (.sl (.int .i64)) s.2.2.2], .agg [.int .i64 t.1, .int .i64 t.2.1, .sl (.sl (.int .i64)) t.2.2.1, .sl (.sl (.int .i64)) t.2.2.2], .sl (.int .i64) word] [] (.bool r) := by
  unfold lineallaw01_SpecSides at h
  refine zH Try.func13 [.tmp 6] 207 ?_
  refine zo ?_
  refine zB [(2, .sl (.int .i64) word), (3, .bp 3 0), (4, .bp 4 0)] [(3, .box 24 [.int .i64 s.1, .int .i64 s.2.1, .sl (.sl (.int .i64)) s.2.2.1, .sl (.sl (.int .i64)) s.2.2.2]), (4, .box 24 [.int .i64 t.1, .int .i64 t.2.1, .sl (.sl (.int .i64)) t.2.2.1, .sl (.sl (.int .i64)) t.2.2.2])] ?_
  refine AW.seq ?_
  refine zo ?_
  refine zS 1 [(2, .sl (.int .i64) word), (3, .bp 3 0), (4, .bp 4 0), (28, .agg [.int .i64 s.1, .int .i64 s.2.1, .sl (.sl (.int .i64)) s.2.2.1, .sl (.sl (.int .i64)) s.2.2.2])] [(3, .box 24 [.int .i64 s.1, .int .i64 s.2.1, .sl (.sl (.int .i64)) s.2.2.1, .sl (.sl (.int .i64)) s.2.2.2]), (4, .box 24 [.int .i64 t.1, .int .i64 t.2.1, .sl (.sl (.int .i64)) t.2.2.1, .sl (.sl (.int .i64)) t.2.2.2])] ?_
  obtain ⟨v0, hv1, h⟩ := Option.bind_eq_some_iff.1 h
  refine zC [] [] (hc_lineallaw01_Long s hv1) [(2, .sl (.int .i64) word), (3, .bp 3 0), (4, .bp 4 0), (29, .bool v0)] [(3, .box 24 [.int .i64 s.1, .int .i64 s.2.1, .sl (.sl (.int .i64)) s.2.2.1, .sl (.sl (.int .i64)) s.2.2.2]), (4, .box 24 [.int .i64 t.1, .int .i64 t.2.1, .sl (.sl (.int .i64)) t.2.2.1, .sl (.sl (.int .i64)) t.2.2.2])] ?_
  refine zS 1 [(2, .sl (.int .i64) word), (3, .bp 3 0), (4, .bp 4 0), (30, .bool v0)] [(3, .box 24 [.int .i64 s.1, .int .i64 s.2.1, .sl (.sl (.int .i64)) s.2.2.1, .sl (.sl (.int .i64)) s.2.2.2]), (4, .box 24 [.int .i64 t.1, .int .i64 t.2.1, .sl (.sl (.int .i64)) t.2.2.1, .sl (.sl (.int .i64)) t.2.2.2])] ?_
  rcases zI h with ⟨hb2, h⟩ | ⟨hb2, h⟩
  ·
    refine zT [(2, .sl (.int .i64) word), (3, .bp 3 0), (4, .bp 4 0), (30, .bool true)] [(3, .box 24 [.int .i64 s.1, .int .i64 s.2.1, .sl (.sl (.int .i64)) s.2.2.1, .sl (.sl (.int .i64)) s.2.2.2]), (4, .box 24 [.int .i64 t.1, .int .i64 t.2.1, .sl (.sl (.int .i64)) t.2.2.1, .sl (.sl (.int .i64)) t.2.2.2])] gt ?_
    refine zS 6 [(2, .sl (.int .i64) word), (3, .bp 3 0), (4, .bp 4 0), (34, .bool true), (36, .cv (undef))] [(3, .box 24 [.int .i64 s.1, .int .i64 s.2.1, .sl (.sl (.int .i64)) s.2.2.1, .sl (.sl (.int .i64)) s.2.2.2]), (4, .box 24 [.int .i64 t.1, .int .i64 t.2.1, .sl (.sl (.int .i64)) t.2.2.1, .sl (.sl (.int .i64)) t.2.2.2])] ?_
    refine zS 6 [(2, .sl (.int .i64) word), (3, .bp 3 0), (4, .bp 4 0), (39, .bool true), (42, .cv (undef))] [(3, .box 24 [.int .i64 s.1, .int .i64 s.2.1, .sl (.sl (.int .i64)) s.2.2.1, .sl (.sl (.int .i64)) s.2.2.2]), (4, .box 24 [.int .i64 t.1, .int .i64 t.2.1, .sl (.sl (.int .i64)) t.2.2.1, .sl (.sl (.int .i64)) t.2.2.2])] ?_
    refine zB [(2, .sl (.int .i64) word), (3, .bp 3 0), (4, .bp 4 0), (43, .bool true)] [(3, .box 24 [.int .i64 s.1, .int .i64 s.2.1, .sl (.sl (.int .i64)) s.2.2.1, .sl (.sl (.int .i64)) s.2.2.2]), (4, .box 24 [.int .i64 t.1, .int .i64 t.2.1, .sl (.sl (.int .i64)) t.2.2.1, .sl (.sl (.int .i64)) t.2.2.2])] ?_
    refine AW.cond (b := true) rfl (fun _ => ?_) (fun hb3 => by cases hb3)
    refine zo ?_
    obtain ⟨v0_2, hv4, h⟩ := Option.bind_eq_some_iff.1 h
    refine zC [] [] (hc_lineallaw01_Awake hv4) [(44, .bool v0_2)] [] ?_
    refine zB [(6, .bool v0_2)] [] ?_
    refine zr ?_
    obtain rfl := Option.some.inj h
    exact zR [] [] []
  ·
    refine zT [(2, .sl (.int .i64) word), (3, .bp 3 0), (4, .bp 4 0), (30, .bool false)] [(3, .box 24 [.int .i64 s.1, .int .i64 s.2.1, .sl (.sl (.int .i64)) s.2.2.1, .sl (.sl (.int .i64)) s.2.2.2]), (4, .box 24 [.int .i64 t.1, .int .i64 t.2.1, .sl (.sl (.int .i64)) t.2.2.1, .sl (.sl (.int .i64)) t.2.2.2])] gt ?_
    refine zS 1 [(2, .sl (.int .i64) word), (3, .bp 3 0), (4, .bp 4 0), (30, .bool false), (31, .agg [.int .i64 t.1, .int .i64 t.2.1, .sl (.sl (.int .i64)) t.2.2.1, .sl (.sl (.int .i64)) t.2.2.2])] [(3, .box 24 [.int .i64 s.1, .int .i64 s.2.1, .sl (.sl (.int .i64)) s.2.2.1, .sl (.sl (.int .i64)) s.2.2.2]), (4, .box 24 [.int .i64 t.1, .int .i64 t.2.1, .sl (.sl (.int .i64)) t.2.2.1, .sl (.sl (.int .i64)) t.2.2.2])] ?_
    obtain ⟨v0_3, hv5, h⟩ := Option.bind_eq_some_iff.1 h
    refine zG [] [] (hc_lineallaw01_Long t hv5) [(2, .sl (.int .i64) word), (3, .bp 3 0), (4, .bp 4 0), (30, .bool false), (32, .bool v0_3)] [(3, .box 24 [.int .i64 s.1, .int .i64 s.2.1, .sl (.sl (.int .i64)) s.2.2.1, .sl (.sl (.int .i64)) s.2.2.2]), (4, .box 24 [.int .i64 t.1, .int .i64 t.2.1, .sl (.sl (.int .i64)) t.2.2.1, .sl (.sl (.int .i64)) t.2.2.2])] ?_
    refine zS 2 [(2, .sl (.int .i64) word), (3, .bp 3 0), (4, .bp 4 0), (34, .bool v0_3)] [(3, .box 24 [.int .i64 s.1, .int .i64 s.2.1, .sl (.sl (.int .i64)) s.2.2.1, .sl (.sl (.int .i64)) s.2.2.2]), (4, .box 24 [.int .i64 t.1, .int .i64 t.2.1, .sl (.sl (.int .i64)) t.2.2.1, .sl (.sl (.int .i64)) t.2.2.2])] ?_
    rcases zI h with ⟨hb6, h⟩ | ⟨hb6, h⟩
    ·
      refine zT [(2, .sl (.int .i64) word), (3, .bp 3 0), (4, .bp 4 0), (34, .bool true)] [(3, .box 24 [.int .i64 s.1, .int .i64 s.2.1, .sl (.sl (.int .i64)) s.2.2.1, .sl (.sl (.int .i64)) s.2.2.2]), (4, .box 24 [.int .i64 t.1, .int .i64 t.2.1, .sl (.sl (.int .i64)) t.2.2.1, .sl (.sl (.int .i64)) t.2.2.2])] gt ?_
      refine zS 6 [(2, .sl (.int .i64) word), (3, .bp 3 0), (4, .bp 4 0), (39, .bool true), (40, .cv (undef))] [(3, .box 24 [.int .i64 s.1, .int .i64 s.2.1, .sl (.sl (.int .i64)) s.2.2.1, .sl (.sl (.int .i64)) s.2.2.2]), (4, .box 24 [.int .i64 t.1, .int .i64 t.2.1, .sl (.sl (.int .i64)) t.2.2.1, .sl (.sl (.int .i64)) t.2.2.2])] ?_
      refine zB [(2, .sl (.int .i64) word), (3, .bp 3 0), (4, .bp 4 0), (43, .bool true)] [(3, .box 24 [.int .i64 s.1, .int .i64 s.2.1, .sl (.sl (.int .i64)) s.2.2.1, .sl (.sl (.int .i64)) s.2.2.2]), (4, .box 24 [.int .i64 t.1, .int .i64 t.2.1, .sl (.sl (.int .i64)) t.2.2.1, .sl (.sl (.int .i64)) t.2.2.2])] ?_
      refine AW.cond (b := true) rfl (fun _ => ?_) (fun hb7 => by cases hb7)
      refine zo ?_
      obtain ⟨v0_4, hv8, h⟩ := Option.bind_eq_some_iff.1 h
      refine zC [] [] (hc_lineallaw01_Awake hv8) [(44, .bool v0_4)] [] ?_
      refine zB [(6, .bool v0_4)] [] ?_
      refine zr ?_
      obtain rfl := Option.some.inj h
      exact zR [] [] []
    ·
      refine zT [(2, .sl (.int .i64) word), (3, .bp 3 0), (4, .bp 4 0), (34, .bool false)] [(3, .box 24 [.int .i64 s.1, .int .i64 s.2.1, .sl (.sl (.int .i64)) s.2.2.1, .sl (.sl (.int .i64)) s.2.2.2]), (4, .box 24 [.int .i64 t.1, .int .i64 t.2.1, .sl (.sl (.int .i64)) t.2.2.1, .sl (.sl (.int .i64)) t.2.2.2])] gt ?_
      refine zS 1 [(2, .sl (.int .i64) word), (3, .bp 3 0), (4, .bp 4 0), (34, .bool false), (35, .agg [.int .i64 s.1, .int .i64 s.2.1, .sl (.sl (.int .i64)) s.2.2.1, .sl (.sl (.int .i64)) s.2.2.2])] [(3, .box 24 [.int .i64 s.1, .int .i64 s.2.1, .sl (.sl (.int .i64)) s.2.2.1, .sl (.sl (.int .i64)) s.2.2.2]), (4, .box 24 [.int .i64 t.1, .int .i64 t.2.1, .sl (.sl (.int .i64)) t.2.2.1, .sl (.sl (.int .i64)) t.2.2.2])] ?_
      obtain ⟨v0_5, hv9, h⟩ := Option.bind_eq_some_iff.1 h
      refine zG [] [] (hc_linealref01_Valid s hv9) [(2, .sl (.int .i64) word), (3, .bp 3 0), (4, .bp 4 0), (34, .bool false), (36, .bool v0_5)] [(3, .box 24 [.int .i64 s.1, .int .i64 s.2.1, .sl (.sl (.int .i64)) s.2.2.1, .sl (.sl (.int .i64)) s.2.2.2]), (4, .box 24 [.int .i64 t.1, .int .i64 t.2.1, .sl (.sl (.int .i64)) t.2.2.1, .sl (.sl (.int .i64)) t.2.2.2])] ?_
      refine zS 3 [(2, .sl (.int .i64) word), (3, .bp 3 0), (4, .bp 4 0), (39, .bool (!v0_5))] [(3, .box 24 [.int .i64 s.1, .int .i64 s.2.1, .sl (.sl (.int .i64)) s.2.2.1, .sl (.sl (.int .i64)) s.2.2.2]), (4, .box 24 [.int .i64 t.1, .int .i64 t.2.1, .sl (.sl (.int .i64)) t.2.2.1, .sl (.sl (.int .i64)) t.2.2.2])] ?_
      rcases zI h with ⟨hb10, h⟩ | ⟨hb10, h⟩
      ·
        refine zT [(2, .sl (.int .i64) word), (3, .bp 3 0), (4, .bp 4 0), (39, .bool true)] [(3, .box 24 [.int .i64 s.1, .int .i64 s.2.1, .sl (.sl (.int .i64)) s.2.2.1, .sl (.sl (.int .i64)) s.2.2.2]), (4, .box 24 [.int .i64 t.1, .int .i64 t.2.1, .sl (.sl (.int .i64)) t.2.2.1, .sl (.sl (.int .i64)) t.2.2.2])] gt ?_
        refine zB [(2, .sl (.int .i64) word), (3, .bp 3 0), (4, .bp 4 0), (43, .bool true)] [(3, .box 24 [.int .i64 s.1, .int .i64 s.2.1, .sl (.sl (.int .i64)) s.2.2.1, .sl (.sl (.int .i64)) s.2.2.2]), (4, .box 24 [.int .i64 t.1, .int .i64 t.2.1, .sl (.sl (.int .i64)) t.2.2.1, .sl (.sl (.int .i64)) t.2.2.2])] ?_
        refine AW.cond (b := true) rfl (fun _ => ?_) (fun hb11 => by cases hb11)
        refine zo ?_
        obtain ⟨v0_6, hv12, h⟩ := Option.bind_eq_some_iff.1 h
        refine zC [] [] (hc_lineallaw01_Awake hv12) [(44, .bool v0_6)] [] ?_
        refine zB [(6, .bool v0_6)] [] ?_
        refine zr ?_
        obtain rfl := Option.some.inj h
        exact zR [] [] []
      ·
        refine zT [(2, .sl (.int .i64) word), (3, .bp 3 0), (4, .bp 4 0), (39, .bool false)] [(3, .box 24 [.int .i64 s.1, .int .i64 s.2.1, .sl (.sl (.int .i64)) s.2.2.1, .sl (.sl (.int .i64)) s.2.2.2]), (4, .box 24 [.int .i64 t.1, .int .i64 t.2.1, .sl (.sl (.int .i64)) t.2.2.1, .sl (.sl (.int .i64)) t.2.2.2])] gt ?_
        refine zS 1 [(2, .sl (.int .i64) word), (3, .bp 3 0), (4, .bp 4 0), (39, .bool false), (40, .agg [.int .i64 t.1, .int .i64 t.2.1, .sl (.sl (.int .i64)) t.2.2.1, .sl (.sl (.int .i64)) t.2.2.2])] [(3, .box 24 [.int .i64 s.1, .int .i64 s.2.1, .sl (.sl (.int .i64)) s.2.2.1, .sl (.sl (.int .i64)) s.2.2.2]), (4, .box 24 [.int .i64 t.1, .int .i64 t.2.1, .sl (.sl (.int .i64)) t.2.2.1, .sl (.sl (.int .i64)) t.2.2.2])] ?_
        obtain ⟨v0_7, hv13, h⟩ := Option.bind_eq_some_iff.1 h
        refine zG [] [] (hc_linealref01_Valid t hv13) [(2, .sl (.int .i64) word), (3, .bp 3 0), (4, .bp 4 0), (39, .bool false), (41, .bool v0_7)] [(3, .box 24 [.int .i64 s.1, .int .i64 s.2.1, .sl (.sl (.int .i64)) s.2.2.1, .sl (.sl (.int .i64)) s.2.2.2]), (4, .box 24 [.int .i64 t.1, .int .i64 t.2.1, .sl (.sl (.int .i64)) t.2.2.1, .sl (.sl (.int .i64)) t.2.2.2])] ?_
        refine zB [(2, .sl (.int .i64) word), (3, .bp 3 0), (4, .bp 4 0), (43, .bool (!v0_7))] [(3, .box 24 [.int .i64 s.1, .int .i64 s.2.1, .sl (.sl (.int .i64)) s.2.2.1, .sl (.sl (.int .i64)) s.2.2.2]), (4, .box 24 [.int .i64 t.1, .int .i64 t.2.1, .sl (.sl (.int .i64)) t.2.2.1, .sl (.sl (.int .i64)) t.2.2.2])] ?_
        refine zQ h (fun hb14 h => ?_) (fun hb14 h => ?_)
        ·
          refine zo ?_
          obtain ⟨v0_8, hv15, h⟩ := Option.bind_eq_some_iff.1 h
          refine zC [] [] (hc_lineallaw01_Awake hv15) [(44, .bool v0_8)] [] ?_
          refine zB [(6, .bool v0_8)] [] ?_
          refine zr ?_
          obtain rfl := Option.some.inj h
          exact zR [] [] []
        ·
          refine zk ?_
          refine zo ?_
          refine zS 2 [(2, .sl (.int .i64) word), (3, .bp 3 0), (4, .bp 4 0), (46, .agg [.int .i64 s.1, .int .i64 s.2.1, .sl (.sl (.int .i64)) s.2.2.1, .sl (.sl (.int .i64)) s.2.2.2]), (47, .agg [.int .i64 t.1, .int .i64 t.2.1, .sl (.sl (.int .i64)) t.2.2.1, .sl (.sl (.int .i64)) t.2.2.2])] [(3, .box 24 [.int .i64 s.1, .int .i64 s.2.1, .sl (.sl (.int .i64)) s.2.2.1, .sl (.sl (.int .i64)) s.2.2.2]), (4, .box 24 [.int .i64 t.1, .int .i64 t.2.1, .sl (.sl (.int .i64)) t.2.2.1, .sl (.sl (.int .i64)) t.2.2.2])] ?_
          obtain ⟨v0_9, hv16, h⟩ := Option.bind_eq_some_iff.1 h
          refine zC [] [] (hc_spec_Both s t hv16) [(2, .sl (.int .i64) word), (3, .bp 3 0), (4, .bp 4 0), (48, .tup [.agg [.int .i64 v0_9.1, .int .i64 v0_9.2.1, .own 58000, .own 58001], .int .i64 v0_9.2.2.2.2])] [(3, .box 24 [.int .i64 s.1, .int .i64 s.2.1, .sl (.sl (.int .i64)) s.2.2.1, .sl (.sl (.int .i64)) s.2.2.2]), (4, .box 24 [.int .i64 t.1, .int .i64 t.2.1, .sl (.sl (.int .i64)) t.2.2.1, .sl (.sl (.int .i64)) t.2.2.2]), (58000, .arr 25 (.sl (.int .i64)) v0_9.2.2.1), (58001, .arr 25 (.sl (.int .i64)) v0_9.2.2.2.1)] ?_
          refine zB [(2, .sl (.int .i64) word), (3, .bp 3 0), (4, .bp 4 0), (7, .bp 7 0), (8, .int .i64 v0_9.2.2.2.2)] [(3, .box 24 [.int .i64 s.1, .int .i64 s.2.1, .sl (.sl (.int .i64)) s.2.2.1, .sl (.sl (.int .i64)) s.2.2.2]), (4, .box 24 [.int .i64 t.1, .int .i64 t.2.1, .sl (.sl (.int .i64)) t.2.2.1, .sl (.sl (.int .i64)) t.2.2.2]), (7, .box 24 [.int .i64 v0_9.1, .int .i64 v0_9.2.1, .own 58000, .own 58001]), (58000, .arr 25 (.sl (.int .i64)) v0_9.2.2.1), (58001, .arr 25 (.sl (.int .i64)) v0_9.2.2.2.1)] ?_
          refine AW.seq ?_
          refine zo ?_
          refine zB [(2, .sl (.int .i64) word), (3, .bp 3 0), (4, .bp 4 0), (7, .bp 7 0), (8, .int .i64 v0_9.2.2.2.2), (52, .bool (!(decide (v0_9.2.2.2.2 = 0))))] [(3, .box 24 [.int .i64 s.1, .int .i64 s.2.1, .sl (.sl (.int .i64)) s.2.2.1, .sl (.sl (.int .i64)) s.2.2.2]), (4, .box 24 [.int .i64 t.1, .int .i64 t.2.1, .sl (.sl (.int .i64)) t.2.2.1, .sl (.sl (.int .i64)) t.2.2.2]), (7, .box 24 [.int .i64 v0_9.1, .int .i64 v0_9.2.1, .own 58000, .own 58001]), (58000, .arr 25 (.sl (.int .i64)) v0_9.2.2.1), (58001, .arr 25 (.sl (.int .i64)) v0_9.2.2.2.1)] ?_
          refine zQ h (fun hb17 h => ?_) (fun hb17 h => ?_)
          ·
            refine zo ?_
            refine zS 3 [(55, .bool (decide (v0_9.2.2.2.2 = 4)))] [] ?_
            rcases zI h with ⟨hb18, h⟩ | ⟨hb18, h⟩
            ·
              refine zT [(55, .bool true)] [] gt ?_
              obtain ⟨v0_10, hv19, h⟩ := Option.bind_eq_some_iff.1 h
              refine zG [] [] (hc_lineallaw01_Awake hv19) [(55, .bool true), (56, .bool v0_10)] [] ?_
              refine zB [(6, .bool v0_10)] [] ?_
              refine zr ?_
              obtain rfl := Option.some.inj h
              exact zR [] [] []
            ·
              refine zT [(55, .bool false)] [] gt ?_
              refine zB [(6, .bool false)] [] ?_
              refine zr ?_
              obtain rfl := Option.some.inj h
              exact zR [] [] []
          ·
            refine zk ?_
            refine AW.seq ?_
            refine zo ?_
            refine zS 1 [(2, .sl (.int .i64) word), (3, .bp 3 0), (4, .bp 4 0), (7, .bp 7 0), (58, .agg [.int .i64 v0_9.1, .int .i64 v0_9.2.1, .own 58000, .own 58001])] [(3, .box 24 [.int .i64 s.1, .int .i64 s.2.1, .sl (.sl (.int .i64)) s.2.2.1, .sl (.sl (.int .i64)) s.2.2.2]), (4, .box 24 [.int .i64 t.1, .int .i64 t.2.1, .sl (.sl (.int .i64)) t.2.2.1, .sl (.sl (.int .i64)) t.2.2.2]), (7, .box 24 [.int .i64 v0_9.1, .int .i64 v0_9.2.1, .own 58000, .own 58001]), (58000, .arr 25 (.sl (.int .i64)) v0_9.2.2.1), (58001, .arr 25 (.sl (.int .i64)) v0_9.2.2.2.1)] ?_
            obtain ⟨v0_11, hv20, h⟩ := Option.bind_eq_some_iff.1 h
            refine zC [58000, 58001] [] (hc_linealref01_Valid (v0_9.1, v0_9.2.1, v0_9.2.2.1, v0_9.2.2.2.1) hv20) [(2, .sl (.int .i64) word), (3, .bp 3 0), (4, .bp 4 0), (7, .bp 7 0), (59, .bool v0_11)] [(3, .box 24 [.int .i64 s.1, .int .i64 s.2.1, .sl (.sl (.int .i64)) s.2.2.1, .sl (.sl (.int .i64)) s.2.2.2]), (4, .box 24 [.int .i64 t.1, .int .i64 t.2.1, .sl (.sl (.int .i64)) t.2.2.1, .sl (.sl (.int .i64)) t.2.2.2]), (7, .box 24 [.int .i64 v0_9.1, .int .i64 v0_9.2.1, .own 58000, .own 58001]), (58000, .arr 25 (.sl (.int .i64)) v0_9.2.2.1), (58001, .arr 25 (.sl (.int .i64)) v0_9.2.2.2.1)] ?_
            refine zS 2 [(2, .sl (.int .i64) word), (3, .bp 3 0), (4, .bp 4 0), (7, .bp 7 0), (61, .bool (!v0_11))] [(3, .box 24 [.int .i64 s.1, .int .i64 s.2.1, .sl (.sl (.int .i64)) s.2.2.1, .sl (.sl (.int .i64)) s.2.2.2]), (4, .box 24 [.int .i64 t.1, .int .i64 t.2.1, .sl (.sl (.int .i64)) t.2.2.1, .sl (.sl (.int .i64)) t.2.2.2]), (7, .box 24 [.int .i64 v0_9.1, .int .i64 v0_9.2.1, .own 58000, .own 58001]), (58000, .arr 25 (.sl (.int .i64)) v0_9.2.2.1), (58001, .arr 25 (.sl (.int .i64)) v0_9.2.2.2.1)] ?_
            rcases zI h with ⟨hb21, h⟩ | ⟨hb21, h⟩
            ·
              refine zT [(2, .sl (.int .i64) word), (3, .bp 3 0), (4, .bp 4 0), (7, .bp 7 0), (61, .bool true)] [(3, .box 24 [.int .i64 s.1, .int .i64 s.2.1, .sl (.sl (.int .i64)) s.2.2.1, .sl (.sl (.int .i64)) s.2.2.2]), (4, .box 24 [.int .i64 t.1, .int .i64 t.2.1, .sl (.sl (.int .i64)) t.2.2.1, .sl (.sl (.int .i64)) t.2.2.2]), (7, .box 24 [.int .i64 v0_9.1, .int .i64 v0_9.2.1, .own 58000, .own 58001]), (58000, .arr 25 (.sl (.int .i64)) v0_9.2.2.1), (58001, .arr 25 (.sl (.int .i64)) v0_9.2.2.2.1)] gt ?_
              refine zS 4 [(2, .sl (.int .i64) word), (3, .bp 3 0), (4, .bp 4 0), (7, .bp 7 0), (61, .bool true), (63, .cv (undef)), (65, .cv (undef))] [(3, .box 24 [.int .i64 s.1, .int .i64 s.2.1, .sl (.sl (.int .i64)) s.2.2.1, .sl (.sl (.int .i64)) s.2.2.2]), (4, .box 24 [.int .i64 t.1, .int .i64 t.2.1, .sl (.sl (.int .i64)) t.2.2.1, .sl (.sl (.int .i64)) t.2.2.2]), (7, .box 24 [.int .i64 v0_9.1, .int .i64 v0_9.2.1, .own 58000, .own 58001]), (58000, .arr 25 (.sl (.int .i64)) v0_9.2.2.1), (58001, .arr 25 (.sl (.int .i64)) v0_9.2.2.2.1)] ?_
              refine zS 4 [(2, .sl (.int .i64) word), (3, .bp 3 0), (4, .bp 4 0), (7, .bp 7 0), (61, .bool true), (69, .cv (undef))] [(3, .box 24 [.int .i64 s.1, .int .i64 s.2.1, .sl (.sl (.int .i64)) s.2.2.1, .sl (.sl (.int .i64)) s.2.2.2]), (4, .box 24 [.int .i64 t.1, .int .i64 t.2.1, .sl (.sl (.int .i64)) t.2.2.1, .sl (.sl (.int .i64)) t.2.2.2]), (7, .box 24 [.int .i64 v0_9.1, .int .i64 v0_9.2.1, .own 58000, .own 58001]), (58000, .arr 25 (.sl (.int .i64)) v0_9.2.2.1), (58001, .arr 25 (.sl (.int .i64)) v0_9.2.2.2.1)] ?_
              refine zS 6 [(2, .sl (.int .i64) word), (3, .bp 3 0), (4, .bp 4 0), (7, .bp 7 0), (71, .bool true), (73, .cv (undef)), (75, .cv (undef))] [(3, .box 24 [.int .i64 s.1, .int .i64 s.2.1, .sl (.sl (.int .i64)) s.2.2.1, .sl (.sl (.int .i64)) s.2.2.2]), (4, .box 24 [.int .i64 t.1, .int .i64 t.2.1, .sl (.sl (.int .i64)) t.2.2.1, .sl (.sl (.int .i64)) t.2.2.2]), (7, .box 24 [.int .i64 v0_9.1, .int .i64 v0_9.2.1, .own 58000, .own 58001]), (58000, .arr 25 (.sl (.int .i64)) v0_9.2.2.1), (58001, .arr 25 (.sl (.int .i64)) v0_9.2.2.2.1)] ?_
              refine zS 4 [(2, .sl (.int .i64) word), (3, .bp 3 0), (4, .bp 4 0), (7, .bp 7 0), (71, .bool true), (79, .cv (undef))] [(3, .box 24 [.int .i64 s.1, .int .i64 s.2.1, .sl (.sl (.int .i64)) s.2.2.1, .sl (.sl (.int .i64)) s.2.2.2]), (4, .box 24 [.int .i64 t.1, .int .i64 t.2.1, .sl (.sl (.int .i64)) t.2.2.1, .sl (.sl (.int .i64)) t.2.2.2]), (7, .box 24 [.int .i64 v0_9.1, .int .i64 v0_9.2.1, .own 58000, .own 58001]), (58000, .arr 25 (.sl (.int .i64)) v0_9.2.2.1), (58001, .arr 25 (.sl (.int .i64)) v0_9.2.2.2.1)] ?_
              refine zB [(2, .sl (.int .i64) word), (3, .bp 3 0), (4, .bp 4 0), (7, .bp 7 0), (80, .bool true)] [(3, .box 24 [.int .i64 s.1, .int .i64 s.2.1, .sl (.sl (.int .i64)) s.2.2.1, .sl (.sl (.int .i64)) s.2.2.2]), (4, .box 24 [.int .i64 t.1, .int .i64 t.2.1, .sl (.sl (.int .i64)) t.2.2.1, .sl (.sl (.int .i64)) t.2.2.2]), (7, .box 24 [.int .i64 v0_9.1, .int .i64 v0_9.2.1, .own 58000, .own 58001]), (58000, .arr 25 (.sl (.int .i64)) v0_9.2.2.1), (58001, .arr 25 (.sl (.int .i64)) v0_9.2.2.2.1)] ?_
              refine AW.cond (b := true) rfl (fun _ => ?_) (fun hb22 => by cases hb22)
              refine zo ?_
              refine zB [(6, .bool false)] [] ?_
              refine zr ?_
              obtain rfl := Option.some.inj h
              exact zR [] [] []
            ·
              refine zT [(2, .sl (.int .i64) word), (3, .bp 3 0), (4, .bp 4 0), (7, .bp 7 0), (61, .bool false)] [(3, .box 24 [.int .i64 s.1, .int .i64 s.2.1, .sl (.sl (.int .i64)) s.2.2.1, .sl (.sl (.int .i64)) s.2.2.2]), (4, .box 24 [.int .i64 t.1, .int .i64 t.2.1, .sl (.sl (.int .i64)) t.2.2.1, .sl (.sl (.int .i64)) t.2.2.2]), (7, .box 24 [.int .i64 v0_9.1, .int .i64 v0_9.2.1, .own 58000, .own 58001]), (58000, .arr 25 (.sl (.int .i64)) v0_9.2.2.1), (58001, .arr 25 (.sl (.int .i64)) v0_9.2.2.2.1)] gt ?_
              obtain ⟨c23, h⟩ := ck_some.1 h
              refine zS 10 [(2, .sl (.int .i64) word), (3, .bp 3 0), (4, .bp 4 0), (7, .bp 7 0), (71, .bool (!(decide (v0_9.1 = (s.1 * t.1)))))] [(3, .box 24 [.int .i64 s.1, .int .i64 s.2.1, .sl (.sl (.int .i64)) s.2.2.1, .sl (.sl (.int .i64)) s.2.2.2]), (4, .box 24 [.int .i64 t.1, .int .i64 t.2.1, .sl (.sl (.int .i64)) t.2.2.1, .sl (.sl (.int .i64)) t.2.2.2]), (7, .box 24 [.int .i64 v0_9.1, .int .i64 v0_9.2.1, .own 58000, .own 58001]), (58000, .arr 25 (.sl (.int .i64)) v0_9.2.2.1), (58001, .arr 25 (.sl (.int .i64)) v0_9.2.2.2.1)] ?_
              rcases zI h with ⟨hb24, h⟩ | ⟨hb24, h⟩
              ·
                refine zT [(2, .sl (.int .i64) word), (3, .bp 3 0), (4, .bp 4 0), (7, .bp 7 0), (71, .bool true)] [(3, .box 24 [.int .i64 s.1, .int .i64 s.2.1, .sl (.sl (.int .i64)) s.2.2.1, .sl (.sl (.int .i64)) s.2.2.2]), (4, .box 24 [.int .i64 t.1, .int .i64 t.2.1, .sl (.sl (.int .i64)) t.2.2.1, .sl (.sl (.int .i64)) t.2.2.2]), (7, .box 24 [.int .i64 v0_9.1, .int .i64 v0_9.2.1, .own 58000, .own 58001]), (58000, .arr 25 (.sl (.int .i64)) v0_9.2.2.1), (58001, .arr 25 (.sl (.int .i64)) v0_9.2.2.2.1)] gt ?_
                refine zS 4 [(2, .sl (.int .i64) word), (3, .bp 3 0), (4, .bp 4 0), (7, .bp 7 0), (71, .bool true), (73, .cv (undef)), (75, .cv (undef))] [(3, .box 24 [.int .i64 s.1, .int .i64 s.2.1, .sl (.sl (.int .i64)) s.2.2.1, .sl (.sl (.int .i64)) s.2.2.2]), (4, .box 24 [.int .i64 t.1, .int .i64 t.2.1, .sl (.sl (.int .i64)) t.2.2.1, .sl (.sl (.int .i64)) t.2.2.2]), (7, .box 24 [.int .i64 v0_9.1, .int .i64 v0_9.2.1, .own 58000, .own 58001]), (58000, .arr 25 (.sl (.int .i64)) v0_9.2.2.1), (58001, .arr 25 (.sl (.int .i64)) v0_9.2.2.2.1)] ?_
                refine zS 4 [(2, .sl (.int .i64) word), (3, .bp 3 0), (4, .bp 4 0), (7, .bp 7 0), (71, .bool true), (79, .cv (undef))] [(3, .box 24 [.int .i64 s.1, .int .i64 s.2.1, .sl (.sl (.int .i64)) s.2.2.1, .sl (.sl (.int .i64)) s.2.2.2]), (4, .box 24 [.int .i64 t.1, .int .i64 t.2.1, .sl (.sl (.int .i64)) t.2.2.1, .sl (.sl (.int .i64)) t.2.2.2]), (7, .box 24 [.int .i64 v0_9.1, .int .i64 v0_9.2.1, .own 58000, .own 58001]), (58000, .arr 25 (.sl (.int .i64)) v0_9.2.2.1), (58001, .arr 25 (.sl (.int .i64)) v0_9.2.2.2.1)] ?_
                refine zB [(2, .sl (.int .i64) word), (3, .bp 3 0), (4, .bp 4 0), (7, .bp 7 0), (80, .bool true)] [(3, .box 24 [.int .i64 s.1, .int .i64 s.2.1, .sl (.sl (.int .i64)) s.2.2.1, .sl (.sl (.int .i64)) s.2.2.2]), (4, .box 24 [.int .i64 t.1, .int .i64 t.2.1, .sl (.sl (.int .i64)) t.2.2.1, .sl (.sl (.int .i64)) t.2.2.2]), (7, .box 24 [.int .i64 v0_9.1, .int .i64 v0_9.2.1, .own 58000, .own 58001]), (58000, .arr 25 (.sl (.int .i64)) v0_9.2.2.1), (58001, .arr 25 (.sl (.int .i64)) v0_9.2.2.2.1)] ?_
                refine AW.cond (b := true) rfl (fun _ => ?_) (fun hb25 => by cases hb25)
                refine zo ?_
                refine zB [(6, .bool false)] [] ?_
                refine zr ?_
                obtain rfl := Option.some.inj h
                exact zR [] [] []
              ·
                refine zT [(2, .sl (.int .i64) word), (3, .bp 3 0), (4, .bp 4 0), (7, .bp 7 0), (71, .bool false)] [(3, .box 24 [.int .i64 s.1, .int .i64 s.2.1, .sl (.sl (.int .i64)) s.2.2.1, .sl (.sl (.int .i64)) s.2.2.2]), (4, .box 24 [.int .i64 t.1, .int .i64 t.2.1, .sl (.sl (.int .i64)) t.2.2.1, .sl (.sl (.int .i64)) t.2.2.2]), (7, .box 24 [.int .i64 v0_9.1, .int .i64 v0_9.2.1, .own 58000, .own 58001]), (58000, .arr 25 (.sl (.int .i64)) v0_9.2.2.1), (58001, .arr 25 (.sl (.int .i64)) v0_9.2.2.2.1)] gt ?_
                obtain ⟨c26, h⟩ := ck_some.1 h
                refine zB [(2, .sl (.int .i64) word), (3, .bp 3 0), (4, .bp 4 0), (7, .bp 7 0), (80, .bool (!(decide (v0_9.2.1 = (s.2.1 + t.2.1)))))] [(3, .box 24 [.int .i64 s.1, .int .i64 s.2.1, .sl (.sl (.int .i64)) s.2.2.1, .sl (.sl (.int .i64)) s.2.2.2]), (4, .box 24 [.int .i64 t.1, .int .i64 t.2.1, .sl (.sl (.int .i64)) t.2.2.1, .sl (.sl (.int .i64)) t.2.2.2]), (7, .box 24 [.int .i64 v0_9.1, .int .i64 v0_9.2.1, .own 58000, .own 58001]), (58000, .arr 25 (.sl (.int .i64)) v0_9.2.2.1), (58001, .arr 25 (.sl (.int .i64)) v0_9.2.2.2.1)] ?_
                refine zQ h (fun hb27 h => ?_) (fun hb27 h => ?_)
                ·
                  refine zo ?_
                  refine zB [(6, .bool false)] [] ?_
                  refine zr ?_
                  obtain rfl := Option.some.inj h
                  exact zR [] [] []
                ·
                  refine zk ?_
                  refine AW.have1 (fun _ : Unit => lineallaw01_SpecSides_k1 s t word v0_9 = some r) (fun _ => ⟨fr [(2, .sl (.int .i64) word), (3, .bp 3 0), (4, .bp 4 0), (7, .bp 7 0)], hpGet [(3, .box 24 [.int .i64 s.1, .int .i64 s.2.1, .sl (.sl (.int .i64)) s.2.2.1, .sl (.sl (.int .i64)) s.2.2.2]), (4, .box 24 [.int .i64 t.1, .int .i64 t.2.1, .sl (.sl (.int .i64)) t.2.2.1, .sl (.sl (.int .i64)) t.2.2.2]), (7, .box 24 [.int .i64 v0_9.1, .int .i64 v0_9.2.1, .own 58000, .own 58001]), (58000, .arr 25 (.sl (.int .i64)) v0_9.2.2.1), (58001, .arr 25 (.sl (.int .i64)) v0_9.2.2.2.1)], gt⟩) (fun _ h => ?_) (fun hk_lineallaw01_SpecSides_k1 => ?_)
                  · unfold lineallaw01_SpecSides_k1 at h
                    refine AW.seq ?_
                    refine zo ?_
                    refine zS 2 [(2, .sl (.int .i64) word), (3, .bp 3 0), (4, .bp 4 0), (7, .bp 7 0), (116, .agg [.int .i64 v0_9.1, .int .i64 v0_9.2.1, .own 58000, .own 58001]), (117, .sl (.int .i64) word)] [(3, .box 24 [.int .i64 s.1, .int .i64 s.2.1, .sl (.sl (.int .i64)) s.2.2.1, .sl (.sl (.int .i64)) s.2.2.2]), (4, .box 24 [.int .i64 t.1, .int .i64 t.2.1, .sl (.sl (.int .i64)) t.2.2.1, .sl (.sl (.int .i64)) t.2.2.2]), (7, .box 24 [.int .i64 v0_9.1, .int .i64 v0_9.2.1, .own 58000, .own 58001]), (58000, .arr 25 (.sl (.int .i64)) v0_9.2.2.1), (58001, .arr 25 (.sl (.int .i64)) v0_9.2.2.2.1)] ?_
                    obtain ⟨v0_13, hv28, h⟩ := Option.bind_eq_some_iff.1 h
                    refine zC [58000, 58001] [] (hc_linealref01_IsWord (v0_9.1, v0_9.2.1, v0_9.2.2.1, v0_9.2.2.2.1) word hv28) [(2, .sl (.int .i64) word), (3, .bp 3 0), (4, .bp 4 0), (7, .bp 7 0), (118, .bool v0_13)] [(3, .box 24 [.int .i64 s.1, .int .i64 s.2.1, .sl (.sl (.int .i64)) s.2.2.1, .sl (.sl (.int .i64)) s.2.2.2]), (4, .box 24 [.int .i64 t.1, .int .i64 t.2.1, .sl (.sl (.int .i64)) t.2.2.1, .sl (.sl (.int .i64)) t.2.2.2]), (7, .box 24 [.int .i64 v0_9.1, .int .i64 v0_9.2.1, .own 58000, .own 58001]), (58000, .arr 25 (.sl (.int .i64)) v0_9.2.2.1), (58001, .arr 25 (.sl (.int .i64)) v0_9.2.2.2.1)] ?_
                    refine zB [(2, .sl (.int .i64) word), (3, .bp 3 0), (4, .bp 4 0), (7, .bp 7 0), (119, .bool (!v0_13))] [(3, .box 24 [.int .i64 s.1, .int .i64 s.2.1, .sl (.sl (.int .i64)) s.2.2.1, .sl (.sl (.int .i64)) s.2.2.2]), (4, .box 24 [.int .i64 t.1, .int .i64 t.2.1, .sl (.sl (.int .i64)) t.2.2.1, .sl (.sl (.int .i64)) t.2.2.2]), (7, .box 24 [.int .i64 v0_9.1, .int .i64 v0_9.2.1, .own 58000, .own 58001]), (58000, .arr 25 (.sl (.int .i64)) v0_9.2.2.1), (58001, .arr 25 (.sl (.int .i64)) v0_9.2.2.2.1)] ?_
                    refine zQ h (fun hb29 h => ?_) (fun hb29 h => ?_)
                    ·
                      refine zo ?_
                      obtain ⟨v0_14, hv30, h⟩ := Option.bind_eq_some_iff.1 h
                      refine zC [] [] (hc_lineallaw01_Awake hv30) [(120, .bool v0_14)] [] ?_
                      refine zB [(6, .bool v0_14)] [] ?_
                      refine zr ?_
                      obtain rfl := Option.some.inj h
                      exact zR [] [] []
                    ·
                      refine zk ?_
                      refine zo ?_
                      refine zS 2 [(2, .sl (.int .i64) word), (3, .bp 3 0), (4, .bp 4 0), (122, .agg [.int .i64 v0_9.1, .int .i64 v0_9.2.1, .own 58000, .own 58001]), (123, .sl (.int .i64) word)] [(3, .box 24 [.int .i64 s.1, .int .i64 s.2.1, .sl (.sl (.int .i64)) s.2.2.1, .sl (.sl (.int .i64)) s.2.2.2]), (4, .box 24 [.int .i64 t.1, .int .i64 t.2.1, .sl (.sl (.int .i64)) t.2.2.1, .sl (.sl (.int .i64)) t.2.2.2]), (58000, .arr 25 (.sl (.int .i64)) v0_9.2.2.1), (58001, .arr 25 (.sl (.int .i64)) v0_9.2.2.2.1)] ?_
                      obtain ⟨v0_15, hv31, h⟩ := Option.bind_eq_some_iff.1 h
                      refine zC [58000, 58001] [] (hc_spec_Run (v0_9.1, v0_9.2.1, v0_9.2.2.1, v0_9.2.2.2.1) 0 word hv31) [(2, .sl (.int .i64) word), (3, .bp 3 0), (4, .bp 4 0), (124, .tup [.own 134000, .int .i64 v0_15.2.1, .int .i64 v0_15.2.2])] [(3, .box 24 [.int .i64 s.1, .int .i64 s.2.1, .sl (.sl (.int .i64)) s.2.2.1, .sl (.sl (.int .i64)) s.2.2.2]), (4, .box 24 [.int .i64 t.1, .int .i64 t.2.1, .sl (.sl (.int .i64)) t.2.2.1, .sl (.sl (.int .i64)) t.2.2.2]), (134000, .arr 3 (.int .i64) v0_15.1)] ?_
                      refine zB [(2, .sl (.int .i64) word), (3, .bp 3 0), (4, .bp 4 0), (14, .own 134000), (16, .int .i64 v0_15.2.2)] [(3, .box 24 [.int .i64 s.1, .int .i64 s.2.1, .sl (.sl (.int .i64)) s.2.2.1, .sl (.sl (.int .i64)) s.2.2.2]), (4, .box 24 [.int .i64 t.1, .int .i64 t.2.1, .sl (.sl (.int .i64)) t.2.2.1, .sl (.sl (.int .i64)) t.2.2.2]), (134000, .arr 3 (.int .i64) v0_15.1)] ?_
                      refine AW.seq ?_
                      refine zo ?_
                      refine zS 3 [(2, .sl (.int .i64) word), (3, .bp 3 0), (4, .bp 4 0), (14, .own 134000), (130, .bool (!(decide (v0_15.2.2 = 0))))] [(3, .box 24 [.int .i64 s.1, .int .i64 s.2.1, .sl (.sl (.int .i64)) s.2.2.1, .sl (.sl (.int .i64)) s.2.2.2]), (4, .box 24 [.int .i64 t.1, .int .i64 t.2.1, .sl (.sl (.int .i64)) t.2.2.1, .sl (.sl (.int .i64)) t.2.2.2]), (134000, .arr 3 (.int .i64) v0_15.1)] ?_
                      rcases zI h with ⟨hb32, h⟩ | ⟨hb32, h⟩
                      ·
                        refine zT [(2, .sl (.int .i64) word), (3, .bp 3 0), (4, .bp 4 0), (14, .own 134000), (130, .bool true)] [(3, .box 24 [.int .i64 s.1, .int .i64 s.2.1, .sl (.sl (.int .i64)) s.2.2.1, .sl (.sl (.int .i64)) s.2.2.2]), (4, .box 24 [.int .i64 t.1, .int .i64 t.2.1, .sl (.sl (.int .i64)) t.2.2.1, .sl (.sl (.int .i64)) t.2.2.2]), (134000, .arr 3 (.int .i64) v0_15.1)] gt ?_
                        refine zS 4 [(2, .sl (.int .i64) word), (3, .bp 3 0), (4, .bp 4 0), (14, .own 134000), (130, .bool true), (132, .cv (undef)), (134, .cv (undef))] [(3, .box 24 [.int .i64 s.1, .int .i64 s.2.1, .sl (.sl (.int .i64)) s.2.2.1, .sl (.sl (.int .i64)) s.2.2.2]), (4, .box 24 [.int .i64 t.1, .int .i64 t.2.1, .sl (.sl (.int .i64)) t.2.2.1, .sl (.sl (.int .i64)) t.2.2.2]), (134000, .arr 3 (.int .i64) v0_15.1)] ?_
                        refine zB [(2, .sl (.int .i64) word), (3, .bp 3 0), (4, .bp 4 0), (14, .own 134000), (136, .bool true)] [(3, .box 24 [.int .i64 s.1, .int .i64 s.2.1, .sl (.sl (.int .i64)) s.2.2.1, .sl (.sl (.int .i64)) s.2.2.2]), (4, .box 24 [.int .i64 t.1, .int .i64 t.2.1, .sl (.sl (.int .i64)) t.2.2.1, .sl (.sl (.int .i64)) t.2.2.2]), (134000, .arr 3 (.int .i64) v0_15.1)] ?_
                        refine AW.cond (b := true) rfl (fun _ => ?_) (fun hb33 => by cases hb33)
                        refine zo ?_
                        refine zB [(6, .bool false)] [] ?_
                        refine zr ?_
                        obtain rfl := Option.some.inj h
                        exact zR [] [] []
                      ·
                        refine zT [(2, .sl (.int .i64) word), (3, .bp 3 0), (4, .bp 4 0), (14, .own 134000), (130, .bool false)] [(3, .box 24 [.int .i64 s.1, .int .i64 s.2.1, .sl (.sl (.int .i64)) s.2.2.1, .sl (.sl (.int .i64)) s.2.2.2]), (4, .box 24 [.int .i64 t.1, .int .i64 t.2.1, .sl (.sl (.int .i64)) t.2.2.1, .sl (.sl (.int .i64)) t.2.2.2]), (134000, .arr 3 (.int .i64) v0_15.1)] gt ?_
                        refine zB [(2, .sl (.int .i64) word), (3, .bp 3 0), (4, .bp 4 0), (14, .own 134000), (136, .bool (!(decide ((v0_15.1.length : Int) = (word.length : Int)))))] [(3, .box 24 [.int .i64 s.1, .int .i64 s.2.1, .sl (.sl (.int .i64)) s.2.2.1, .sl (.sl (.int .i64)) s.2.2.2]), (4, .box 24 [.int .i64 t.1, .int .i64 t.2.1, .sl (.sl (.int .i64)) t.2.2.1, .sl (.sl (.int .i64)) t.2.2.2]), (134000, .arr 3 (.int .i64) v0_15.1)] ?_
                        refine zQ h (fun hb34 h => ?_) (fun hb34 h => ?_)
                        ·
                          refine zo ?_
                          refine zB [(6, .bool false)] [] ?_
                          refine zr ?_
                          obtain rfl := Option.some.inj h
                          exact zR [] [] []
                        ·
                          refine zk ?_
                          refine zo ?_
                          refine zB [(2, .sl (.int .i64) word), (3, .bp 3 0), (4, .bp 4 0), (14, .own 134000), (17, .cv (.slice none 0 0)), (18, .cv (.slice none 0 0)), (19, .cv (.slice none 0 0)), (20, .cv (.slice none 0 0))] [(3, .box 24 [.int .i64 s.1, .int .i64 s.2.1, .sl (.sl (.int .i64)) s.2.2.1, .sl (.sl (.int .i64)) s.2.2.2]), (4, .box 24 [.int .i64 t.1, .int .i64 t.2.1, .sl (.sl (.int .i64)) t.2.2.1, .sl (.sl (.int .i64)) t.2.2.2]), (134000, .arr 3 (.int .i64) v0_15.1)] ?_
                          refine AW.have1 (fun b4 : (List Int) × (List Int) × (List Int) × (List Int) => lineallaw01_SpecSides_k4 s t b4 = some r) (fun b4 => ⟨fr [(3, .bp 3 0), (4, .bp 4 0), (17, .own 151), (18, .own 165), (19, .own 158), (20, .own 172)], hpGet [(3, .box 24 [.int .i64 s.1, .int .i64 s.2.1, .sl (.sl (.int .i64)) s.2.2.1, .sl (.sl (.int .i64)) s.2.2.2]), (4, .box 24 [.int .i64 t.1, .int .i64 t.2.1, .sl (.sl (.int .i64)) t.2.2.1, .sl (.sl (.int .i64)) t.2.2.2]), (151, .arr 3 (.int .i64) b4.1), (158, .arr 3 (.int .i64) b4.2.2.1), (165, .arr 3 (.int .i64) b4.2.1), (172, .arr 3 (.int .i64) b4.2.2.2)], gt⟩) (fun b4 h => ?_) (fun hk_lineallaw01_SpecSides_k4 => ?_)
                          · unfold lineallaw01_SpecSides_k4 at h
                            refine zo ?_
                            refine zS 2 [(4, .bp 4 0), (18, .own 165), (19, .own 158), (20, .own 172), (175, .agg [.int .i64 s.1, .int .i64 s.2.1, .sl (.sl (.int .i64)) s.2.2.1, .sl (.sl (.int .i64)) s.2.2.2]), (176, .own 151)] [(4, .box 24 [.int .i64 t.1, .int .i64 t.2.1, .sl (.sl (.int .i64)) t.2.2.1, .sl (.sl (.int .i64)) t.2.2.2]), (151, .arr 3 (.int .i64) b4.1), (158, .arr 3 (.int .i64) b4.2.2.1), (165, .arr 3 (.int .i64) b4.2.1), (172, .arr 3 (.int .i64) b4.2.2.2)] ?_
                            obtain ⟨v0_16, hv35, h⟩ := Option.bind_eq_some_iff.1 h
                            refine zC [151] [] (hc_spec_Run s 0 b4.1 hv35) [(4, .bp 4 0), (18, .own 165), (19, .own 158), (20, .own 172), (177, .tup [.own 187000, .int .i64 v0_16.2.1, .int .i64 v0_16.2.2])] [(4, .box 24 [.int .i64 t.1, .int .i64 t.2.1, .sl (.sl (.int .i64)) t.2.2.1, .sl (.sl (.int .i64)) t.2.2.2]), (158, .arr 3 (.int .i64) b4.2.2.1), (165, .arr 3 (.int .i64) b4.2.1), (172, .arr 3 (.int .i64) b4.2.2.2), (187000, .arr 3 (.int .i64) v0_16.1)] ?_
                            refine zB [(4, .bp 4 0), (16, .int .i64 v0_16.2.2), (18, .own 165), (19, .own 158), (20, .own 172), (23, .own 187000)] [(4, .box 24 [.int .i64 t.1, .int .i64 t.2.1, .sl (.sl (.int .i64)) t.2.2.1, .sl (.sl (.int .i64)) t.2.2.2]), (158, .arr 3 (.int .i64) b4.2.2.1), (165, .arr 3 (.int .i64) b4.2.1), (172, .arr 3 (.int .i64) b4.2.2.2), (187000, .arr 3 (.int .i64) v0_16.1)] ?_
                            refine zo ?_
                            refine zS 2 [(16, .int .i64 v0_16.2.2), (19, .own 158), (20, .own 172), (23, .own 187000), (182, .agg [.int .i64 t.1, .int .i64 t.2.1, .sl (.sl (.int .i64)) t.2.2.1, .sl (.sl (.int .i64)) t.2.2.2]), (183, .own 165)] [(158, .arr 3 (.int .i64) b4.2.2.1), (165, .arr 3 (.int .i64) b4.2.1), (172, .arr 3 (.int .i64) b4.2.2.2), (187000, .arr 3 (.int .i64) v0_16.1)] ?_
                            obtain ⟨v0_17, hv36, h⟩ := Option.bind_eq_some_iff.1 h
                            refine zC [165] [] (hc_spec_Run t 0 b4.2.1 hv36) [(16, .int .i64 v0_16.2.2), (19, .own 158), (20, .own 172), (23, .own 187000), (184, .tup [.own 194000, .int .i64 v0_17.2.1, .int .i64 v0_17.2.2])] [(158, .arr 3 (.int .i64) b4.2.2.1), (172, .arr 3 (.int .i64) b4.2.2.2), (187000, .arr 3 (.int .i64) v0_16.1), (194000, .arr 3 (.int .i64) v0_17.1)] ?_
                            refine zB [(16, .int .i64 v0_16.2.2), (19, .own 158), (20, .own 172), (23, .own 187000), (25, .own 194000), (27, .int .i64 v0_17.2.2)] [(158, .arr 3 (.int .i64) b4.2.2.1), (172, .arr 3 (.int .i64) b4.2.2.2), (187000, .arr 3 (.int .i64) v0_16.1), (194000, .arr 3 (.int .i64) v0_17.1)] ?_
                            refine zo ?_
                            refine zS 3 [(19, .own 158), (20, .own 172), (23, .own 187000), (25, .own 194000), (27, .int .i64 v0_17.2.2), (190, .bool (decide (v0_16.2.2 = 0)))] [(158, .arr 3 (.int .i64) b4.2.2.1), (172, .arr 3 (.int .i64) b4.2.2.2), (187000, .arr 3 (.int .i64) v0_16.1), (194000, .arr 3 (.int .i64) v0_17.1)] ?_
                            rcases zI h with ⟨hb37, h⟩ | ⟨hb37, h⟩
                            ·
                              refine zT [(19, .own 158), (20, .own 172), (23, .own 187000), (25, .own 194000), (27, .int .i64 v0_17.2.2), (190, .bool true)] [(158, .arr 3 (.int .i64) b4.2.2.1), (172, .arr 3 (.int .i64) b4.2.2.2), (187000, .arr 3 (.int .i64) v0_16.1), (194000, .arr 3 (.int .i64) v0_17.1)] gt ?_
                              refine zS 4 [(19, .own 158), (20, .own 172), (23, .own 187000), (25, .own 194000), (194, .bool (decide (v0_17.2.2 = 0)))] [(158, .arr 3 (.int .i64) b4.2.2.1), (172, .arr 3 (.int .i64) b4.2.2.2), (187000, .arr 3 (.int .i64) v0_16.1), (194000, .arr 3 (.int .i64) v0_17.1)] ?_
                              rcases zI h with ⟨hb38, h⟩ | ⟨hb38, h⟩
                              ·
                                refine zT [(19, .own 158), (20, .own 172), (23, .own 187000), (25, .own 194000), (194, .bool true)] [(158, .arr 3 (.int .i64) b4.2.2.1), (172, .arr 3 (.int .i64) b4.2.2.2), (187000, .arr 3 (.int .i64) v0_16.1), (194000, .arr 3 (.int .i64) v0_17.1)] gt ?_
                                refine zS 2 [(20, .own 172), (25, .own 194000), (194, .bool true), (195, .own 187000), (196, .own 158)] [(158, .arr 3 (.int .i64) b4.2.2.1), (172, .arr 3 (.int .i64) b4.2.2.2), (187000, .arr 3 (.int .i64) v0_16.1), (194000, .arr 3 (.int .i64) v0_17.1)] ?_
                                obtain ⟨v0_18, hv39, h⟩ := Option.bind_eq_some_iff.1 h
                                refine zG [158, 187000] [] (hc_linealref01_SameInts v0_16.1 b4.2.2.1 hv39) [(20, .own 172), (25, .own 194000), (194, .bool true), (197, .bool v0_18)] [(172, .arr 3 (.int .i64) b4.2.2.2), (194000, .arr 3 (.int .i64) v0_17.1)] ?_
                                refine zS 2 [(20, .own 172), (25, .own 194000), (199, .bool v0_18)] [(172, .arr 3 (.int .i64) b4.2.2.2), (194000, .arr 3 (.int .i64) v0_17.1)] ?_
                                rcases zI h with ⟨hb40, h⟩ | ⟨hb40, h⟩
                                ·
                                  refine zT [(20, .own 172), (25, .own 194000), (199, .bool true)] [(172, .arr 3 (.int .i64) b4.2.2.2), (194000, .arr 3 (.int .i64) v0_17.1)] gt ?_
                                  refine zS 2 [(199, .bool true), (200, .own 194000), (201, .own 172)] [(172, .arr 3 (.int .i64) b4.2.2.2), (194000, .arr 3 (.int .i64) v0_17.1)] ?_
                                  obtain ⟨v0_19, hv41, h⟩ := Option.bind_eq_some_iff.1 h
                                  refine zG [172, 194000] [] (hc_linealref01_SameInts v0_17.1 b4.2.2.2 hv41) [(199, .bool true), (202, .bool v0_19)] [] ?_
                                  refine zS 2 [(204, .bool v0_19)] [] ?_
                                  rcases zI h with ⟨hb42, h⟩ | ⟨hb42, h⟩
                                  ·
                                    refine zT [(204, .bool true)] [] gt ?_
                                    obtain ⟨v0_20, hv43, h⟩ := Option.bind_eq_some_iff.1 h
                                    refine zG [] [] (hc_lineallaw01_Awake hv43) [(204, .bool true), (205, .bool v0_20)] [] ?_
                                    refine zB [(6, .bool v0_20)] [] ?_
                                    refine AW.ret ?_
                                    obtain rfl := Option.some.inj h
                                    exact zR [] [] []
                                  ·
                                    refine zT [(204, .bool false)] [] gt ?_
                                    refine zB [(6, .bool false)] [] ?_
                                    refine AW.ret ?_
                                    obtain rfl := Option.some.inj h
                                    exact zR [] [] []
                                ·
                                  refine zT [(20, .own 172), (25, .own 194000), (199, .bool false)] [(172, .arr 3 (.int .i64) b4.2.2.2), (194000, .arr 3 (.int .i64) v0_17.1)] gt ?_
                                  refine zS 6 [(204, .bool false), (205, .cv (undef))] [] ?_
                                  refine zB [(6, .bool false)] [] ?_
                                  refine AW.ret ?_
                                  obtain rfl := Option.some.inj h
                                  exact zR [] [] []
                              ·
                                refine zT [(19, .own 158), (20, .own 172), (23, .own 187000), (25, .own 194000), (194, .bool false)] [(158, .arr 3 (.int .i64) b4.2.2.1), (172, .arr 3 (.int .i64) b4.2.2.2), (187000, .arr 3 (.int .i64) v0_16.1), (194000, .arr 3 (.int .i64) v0_17.1)] gt ?_
                                refine zS 6 [(20, .own 172), (199, .bool false), (200, .cv (undef))] [(172, .arr 3 (.int .i64) b4.2.2.2)] ?_
                                refine zB [(6, .bool false)] [] ?_
                                refine AW.ret ?_
                                obtain rfl := Option.some.inj h
                                exact zR [] [] []
                            ·
                              refine zT [(19, .own 158), (20, .own 172), (23, .own 187000), (25, .own 194000), (27, .int .i64 v0_17.2.2), (190, .bool false)] [(158, .arr 3 (.int .i64) b4.2.2.1), (172, .arr 3 (.int .i64) b4.2.2.2), (187000, .arr 3 (.int .i64) v0_16.1), (194000, .arr 3 (.int .i64) v0_17.1)] gt ?_
                              refine zS 6 [(20, .own 172), (25, .own 194000), (194, .bool false), (195, .cv (undef)), (196, .cv (undef))] [(172, .arr 3 (.int .i64) b4.2.2.2), (194000, .arr 3 (.int .i64) v0_17.1)] ?_
                              refine zS 6 [(199, .bool false), (202, .cv (undef))] [] ?_
                              refine zB [(6, .bool false)] [] ?_
                              refine AW.ret ?_
                              obtain rfl := Option.some.inj h
                              exact zR [] [] []
                          · refine AW.seq ?_
                            refine zo ?_
                            refine zB [(3, .bp 3 0), (4, .bp 4 0), (14, .own 134000), (17, .cv (.slice none 0 0)), (18, .cv (.slice none 0 0)), (19, .cv (.slice none 0 0)), (20, .cv (.slice none 0 0)), (137, .sl (.int .i64) word), (138, .int .i64 (word.length : Int)), (139, .int .i64 0)] [(3, .box 24 [.int .i64 s.1, .int .i64 s.2.1, .sl (.sl (.int .i64)) s.2.2.1, .sl (.sl (.int .i64)) s.2.2.2]), (4, .box 24 [.int .i64 t.1, .int .i64 t.2.1, .sl (.sl (.int .i64)) t.2.2.1, .sl (.sl (.int .i64)) t.2.2.2]), (134000, .arr 3 (.int .i64) v0_15.1)] ?_
                            refine AW.block ?_
                            obtain ⟨rv48, hw44, ho45⟩ := Option.bind_eq_some_iff.1 h
                            refine AW.loopO (lineallaw01_SpecSides_b4 s word v0_15) (fun st4 => ⟨fr [(3, .bp 3 0), (4, .bp 4 0), (14, .own 134000), (17, .own 151), (18, .own 165), (19, .own 158), (20, .own 172), (137, .sl (.int .i64) word), (138, .int .i64 (word.length : Int)), (139, .int .i64 st4.2.2.2.2)], hpGet [(3, .box 24 [.int .i64 s.1, .int .i64 s.2.1, .sl (.sl (.int .i64)) s.2.2.1, .sl (.sl (.int .i64)) s.2.2.2]), (4, .box 24 [.int .i64 t.1, .int .i64 t.2.1, .sl (.sl (.int .i64)) t.2.2.1, .sl (.sl (.int .i64)) t.2.2.2]), (151, .arr 3 (.int .i64) st4.1), (158, .arr 3 (.int .i64) st4.2.2.1), (165, .arr 3 (.int .i64) st4.2.1), (172, .arr 3 (.int .i64) st4.2.2.2.1), (134000, .arr 3 (.int .i64) v0_15.1)], gt⟩) ([], [], [], [], 0) hw44 (zL [] [151, 158, 165, 172] []) ?_
                            intro st4 x47 h hd46
                            unfold lineallaw01_SpecSides_b4 at h
                            refine zo ?_
                            refine zB [(3, .bp 3 0), (4, .bp 4 0), (14, .own 134000), (17, .own 151), (18, .own 165), (19, .own 158), (20, .own 172), (137, .sl (.int .i64) word), (138, .int .i64 (word.length : Int)), (139, .int .i64 st4.2.2.2.2), (140, .bool (decide (st4.2.2.2.2 < (word.length : Int))))] [(3, .box 24 [.int .i64 s.1, .int .i64 s.2.1, .sl (.sl (.int .i64)) s.2.2.1, .sl (.sl (.int .i64)) s.2.2.2]), (4, .box 24 [.int .i64 t.1, .int .i64 t.2.1, .sl (.sl (.int .i64)) t.2.2.1, .sl (.sl (.int .i64)) t.2.2.2]), (151, .arr 3 (.int .i64) st4.1), (158, .arr 3 (.int .i64) st4.2.2.1), (165, .arr 3 (.int .i64) st4.2.1), (172, .arr 3 (.int .i64) st4.2.2.2.1), (134000, .arr 3 (.int .i64) v0_15.1)] ?_
                            refine AW.seq ?_
                            refine zQ h (fun hb49 h => ?_) (fun hb49 h => ?_)
                            ·
                              refine zk ?_
                              refine AW.seq ?_
                              refine AW.block ?_
                              refine zo ?_
                              obtain ⟨c50, h⟩ := ck_some.1 h
                              obtain ⟨c51, h⟩ := ck_some.1 h
                              refine zB [(3, .bp 3 0), (4, .bp 4 0), (14, .own 134000), (17, .own 151), (18, .own 165), (19, .own 158), (20, .own 172), (21, .int .i64 st4.2.2.2.2), (22, .int .i64 (word.getD st4.2.2.2.2.toNat 0)), (137, .sl (.int .i64) word), (138, .int .i64 (word.length : Int)), (139, .int .i64 st4.2.2.2.2)] [(3, .box 24 [.int .i64 s.1, .int .i64 s.2.1, .sl (.sl (.int .i64)) s.2.2.1, .sl (.sl (.int .i64)) s.2.2.2]), (4, .box 24 [.int .i64 t.1, .int .i64 t.2.1, .sl (.sl (.int .i64)) t.2.2.1, .sl (.sl (.int .i64)) t.2.2.2]), (151, .arr 3 (.int .i64) st4.1), (158, .arr 3 (.int .i64) st4.2.2.1), (165, .arr 3 (.int .i64) st4.2.1), (172, .arr 3 (.int .i64) st4.2.2.2.1), (134000, .arr 3 (.int .i64) v0_15.1)] ?_
                              refine zo ?_
                              refine zB [(3, .bp 3 0), (4, .bp 4 0), (14, .own 134000), (17, .own 151), (18, .own 165), (19, .own 158), (20, .own 172), (21, .int .i64 st4.2.2.2.2), (22, .int .i64 (word.getD st4.2.2.2.2.toNat 0)), (137, .sl (.int .i64) word), (138, .int .i64 (word.length : Int)), (139, .int .i64 st4.2.2.2.2), (147, .bool (decide ((word.getD st4.2.2.2.2.toNat 0) < s.2.1)))] [(3, .box 24 [.int .i64 s.1, .int .i64 s.2.1, .sl (.sl (.int .i64)) s.2.2.1, .sl (.sl (.int .i64)) s.2.2.2]), (4, .box 24 [.int .i64 t.1, .int .i64 t.2.1, .sl (.sl (.int .i64)) t.2.2.1, .sl (.sl (.int .i64)) t.2.2.2]), (151, .arr 3 (.int .i64) st4.1), (158, .arr 3 (.int .i64) st4.2.2.1), (165, .arr 3 (.int .i64) st4.2.1), (172, .arr 3 (.int .i64) st4.2.2.2.1), (134000, .arr 3 (.int .i64) v0_15.1)] ?_
                              refine zQ h (fun hb52 h => ?_) (fun hb52 h => ?_)
                              ·
                                refine AW.draw tab_ok mixed_ok [(2, [150]), (3, [151]), (9, [157]), (10, [158])] [(0, [151]), (1, []), (2, [150]), (3, [150, 151]), (4, [158]), (5, [134000]), (6, []), (7, [134000]), (8, [134000]), (9, [157])] (by decide) (by kernel_rfl) ?_
                                obtain ⟨c54, h⟩ := ck_some.1 h
                                refine adops_cut 6 (fun K' hK53 => ?_)
                                try dsimp only [List.drop_succ_cons, List.drop_zero, List.take_succ_cons, List.take_zero]
                                simp only [go_sem, hb2, hb6, hb10, hb14, hb17, hb21, hb24, hb27, hb29, hb32, hb34, hb49, hb52]
                                repeat (with_reducible refine And.intro (by first | assumption | rfl | omega | trivial | (unfold maxLen; omega)) ?_)
                                refine hK53 _ ?_
                                obtain ⟨c56, h⟩ := ck_some.1 h
                                obtain ⟨c57, h⟩ := ck_some.1 h
                                obtain ⟨c58, h⟩ := ck_some.1 h
                                refine adops_cut 6 (fun K' hK55 => ?_)
                                try dsimp only [List.drop_succ_cons, List.drop_zero, List.take_succ_cons, List.take_zero]
                                simp only [go_sem, hb2, hb6, hb10, hb14, hb17, hb21, hb24, hb27, hb29, hb32, hb34, hb49, hb52]
                                repeat (with_reducible refine And.intro (by first | assumption | rfl | omega | trivial | (unfold maxLen; omega)) ?_)
                                refine hK55 _ ?_
                                refine adops_cut 1 (fun K' hK59 => ?_)
                                try dsimp only [List.drop_succ_cons, List.drop_zero, List.take_succ_cons, List.take_zero]
                                simp only [go_sem, hb2, hb6, hb10, hb14, hb17, hb21, hb24, hb27, hb29, hb32, hb34, hb49, hb52]
                                repeat (with_reducible refine And.intro (by first | assumption | rfl | omega | trivial | (unfold maxLen; omega)) ?_)
                                refine hK59 _ ?_
                                refine adops_nil ?_
                                refine ablock_n ?_
                                refine athen_n ?_
                                refine zV [(3, .bp 3 0), (4, .bp 4 0), (14, .own 134000), (17, .own 151), (18, .own 165), (19, .own 158), (20, .own 172), (137, .sl (.int .i64) word), (138, .int .i64 (word.length : Int)), (139, .int .i64 st4.2.2.2.2)] [(3, .box 24 [.int .i64 s.1, .int .i64 s.2.1, .sl (.sl (.int .i64)) s.2.2.1, .sl (.sl (.int .i64)) s.2.2.2]), (4, .box 24 [.int .i64 t.1, .int .i64 t.2.1, .sl (.sl (.int .i64)) t.2.2.1, .sl (.sl (.int .i64)) t.2.2.2]), (151, .arr 3 (.int .i64) (st4.1 ++ [(word.getD st4.2.2.2.2.toNat 0)])), (158, .arr 3 (.int .i64) (st4.2.2.1 ++ [(v0_15.1.getD st4.2.2.2.2.toNat 0)])), (165, .arr 3 (.int .i64) st4.2.1), (172, .arr 3 (.int .i64) st4.2.2.2.1), (134000, .arr 3 (.int .i64) v0_15.1)] gt ?_
                                refine AW.ops ?_
                                obtain ⟨c60, h⟩ := ck_some.1 h
                                refine zA [(3, .bp 3 0), (4, .bp 4 0), (14, .own 134000), (17, .own 151), (18, .own 165), (19, .own 158), (20, .own 172), (137, .sl (.int .i64) word), (138, .int .i64 (word.length : Int)), (139, .int .i64 (st4.2.2.2.2 + 1))] [(3, .box 24 [.int .i64 s.1, .int .i64 s.2.1, .sl (.sl (.int .i64)) s.2.2.1, .sl (.sl (.int .i64)) s.2.2.2]), (4, .box 24 [.int .i64 t.1, .int .i64 t.2.1, .sl (.sl (.int .i64)) t.2.2.1, .sl (.sl (.int .i64)) t.2.2.2]), (151, .arr 3 (.int .i64) (st4.1 ++ [(word.getD st4.2.2.2.2.toNat 0)])), (158, .arr 3 (.int .i64) (st4.2.2.1 ++ [(v0_15.1.getD st4.2.2.2.2.toNat 0)])), (165, .arr 3 (.int .i64) st4.2.1), (172, .arr 3 (.int .i64) st4.2.2.2.1), (134000, .arr 3 (.int .i64) v0_15.1)] ?_
                                obtain rfl := Option.some.inj h
                                exact ⟨_, rfl, zL [] [] []⟩
                              ·
                                refine AW.draw tab_ok mixed_ok [(5, [164]), (6, [165]), (12, [171]), (13, [172])] [(0, [165]), (1, []), (2, [3]), (3, [3]), (4, []), (5, [164]), (6, [164, 165]), (7, [172]), (8, [134000]), (9, []), (10, [134000]), (11, [134000]), (12, [171])] (by decide) (by kernel_rfl) ?_
                                obtain ⟨c62, h⟩ := ck_some.1 h
                                refine adops_cut 6 (fun K' hK61 => ?_)
                                try dsimp only [List.drop_succ_cons, List.drop_zero, List.take_succ_cons, List.take_zero]
                                simp only [go_sem, hb2, hb6, hb10, hb14, hb17, hb21, hb24, hb27, hb29, hb32, hb34, hb49, hb52]
                                repeat (with_reducible refine And.intro (by first | assumption | rfl | omega | trivial | (unfold maxLen; omega)) ?_)
                                refine hK61 _ ?_
                                obtain ⟨c64, h⟩ := ck_some.1 h
                                obtain ⟨c65, h⟩ := ck_some.1 h
                                obtain ⟨c66, h⟩ := ck_some.1 h
                                refine adops_cut 6 (fun K' hK63 => ?_)
                                try dsimp only [List.drop_succ_cons, List.drop_zero, List.take_succ_cons, List.take_zero]
                                simp only [go_sem, hb2, hb6, hb10, hb14, hb17, hb21, hb24, hb27, hb29, hb32, hb34, hb49, hb52]
                                repeat (with_reducible refine And.intro (by first | assumption | rfl | omega | trivial | (unfold maxLen; omega)) ?_)
                                refine hK63 _ ?_
                                obtain ⟨c68, h⟩ := ck_some.1 h
                                refine adops_cut 4 (fun K' hK67 => ?_)
                                try dsimp only [List.drop_succ_cons, List.drop_zero, List.take_succ_cons, List.take_zero]
                                simp only [go_sem, hb2, hb6, hb10, hb14, hb17, hb21, hb24, hb27, hb29, hb32, hb34, hb49, hb52]
                                repeat (with_reducible refine And.intro (by first | assumption | rfl | omega | trivial | (unfold maxLen; omega)) ?_)
                                refine hK67 _ ?_
                                refine adops_nil ?_
                                refine ablock_n ?_
                                refine athen_n ?_
                                refine zV [(3, .bp 3 0), (4, .bp 4 0), (14, .own 134000), (17, .own 151), (18, .own 165), (19, .own 158), (20, .own 172), (137, .sl (.int .i64) word), (138, .int .i64 (word.length : Int)), (139, .int .i64 st4.2.2.2.2)] [(3, .box 24 [.int .i64 s.1, .int .i64 s.2.1, .sl (.sl (.int .i64)) s.2.2.1, .sl (.sl (.int .i64)) s.2.2.2]), (4, .box 24 [.int .i64 t.1, .int .i64 t.2.1, .sl (.sl (.int .i64)) t.2.2.1, .sl (.sl (.int .i64)) t.2.2.2]), (151, .arr 3 (.int .i64) st4.1), (158, .arr 3 (.int .i64) st4.2.2.1), (165, .arr 3 (.int .i64) (st4.2.1 ++ [((word.getD st4.2.2.2.2.toNat 0) - s.2.1)])), (172, .arr 3 (.int .i64) (st4.2.2.2.1 ++ [(v0_15.1.getD st4.2.2.2.2.toNat 0)])), (134000, .arr 3 (.int .i64) v0_15.1)] gt ?_
                                refine AW.ops ?_
                                obtain ⟨c69, h⟩ := ck_some.1 h
                                refine zA [(3, .bp 3 0), (4, .bp 4 0), (14, .own 134000), (17, .own 151), (18, .own 165), (19, .own 158), (20, .own 172), (137, .sl (.int .i64) word), (138, .int .i64 (word.length : Int)), (139, .int .i64 (st4.2.2.2.2 + 1))] [(3, .box 24 [.int .i64 s.1, .int .i64 s.2.1, .sl (.sl (.int .i64)) s.2.2.1, .sl (.sl (.int .i64)) s.2.2.2]), (4, .box 24 [.int .i64 t.1, .int .i64 t.2.1, .sl (.sl (.int .i64)) t.2.2.1, .sl (.sl (.int .i64)) t.2.2.2]), (151, .arr 3 (.int .i64) st4.1), (158, .arr 3 (.int .i64) st4.2.2.1), (165, .arr 3 (.int .i64) (st4.2.1 ++ [((word.getD st4.2.2.2.2.toNat 0) - s.2.1)])), (172, .arr 3 (.int .i64) (st4.2.2.2.1 ++ [(v0_15.1.getD st4.2.2.2.2.toNat 0)])), (134000, .arr 3 (.int .i64) v0_15.1)] ?_
                                obtain rfl := Option.some.inj h
                                exact ⟨_, rfl, zL [] [] []⟩
                            ·
                              refine AW.exit ?_
                              refine athen_e ?_
                              obtain rfl := Option.some.inj h
                              rw [← hd46 _ rfl] at ho45
                              have h := ho45
                              refine athen_e ?_
                              refine ablock_s ?_
                              refine athen_n ?_
                              exact AW.weaken (zL [] [] []) (hk_lineallaw01_SpecSides_k4 _ h)
                  · refine AW.seq ?_
                    refine zo ?_
                    refine zB [(2, .sl (.int .i64) word), (3, .bp 3 0), (4, .bp 4 0), (7, .bp 7 0), (82, .int .i64 v0_9.1), (83, .int .i64 0)] [(3, .box 24 [.int .i64 s.1, .int .i64 s.2.1, .sl (.sl (.int .i64)) s.2.2.1, .sl (.sl (.int .i64)) s.2.2.2]), (4, .box 24 [.int .i64 t.1, .int .i64 t.2.1, .sl (.sl (.int .i64)) t.2.2.1, .sl (.sl (.int .i64)) t.2.2.2]), (7, .box 24 [.int .i64 v0_9.1, .int .i64 v0_9.2.1, .own 58000, .own 58001]), (58000, .arr 25 (.sl (.int .i64)) v0_9.2.2.1), (58001, .arr 25 (.sl (.int .i64)) v0_9.2.2.2.1)] ?_
                    refine AW.block ?_
                    obtain ⟨rv74, hw70, ho71⟩ := Option.bind_eq_some_iff.1 h
                    refine AW.loopO (lineallaw01_SpecSides_b1 s t v0_9) (fun st1 => ⟨fr [(2, .sl (.int .i64) word), (3, .bp 3 0), (4, .bp 4 0), (7, .bp 7 0), (82, .int .i64 v0_9.1), (83, .int .i64 st1)], hpGet [(3, .box 24 [.int .i64 s.1, .int .i64 s.2.1, .sl (.sl (.int .i64)) s.2.2.1, .sl (.sl (.int .i64)) s.2.2.2]), (4, .box 24 [.int .i64 t.1, .int .i64 t.2.1, .sl (.sl (.int .i64)) t.2.2.1, .sl (.sl (.int .i64)) t.2.2.2]), (7, .box 24 [.int .i64 v0_9.1, .int .i64 v0_9.2.1, .own 58000, .own 58001]), (58000, .arr 25 (.sl (.int .i64)) v0_9.2.2.1), (58001, .arr 25 (.sl (.int .i64)) v0_9.2.2.2.1)], gt⟩) 0 hw70 (zL [] [] []) ?_
                    intro st1 x73 h hd72
                    unfold lineallaw01_SpecSides_b1 at h
                    refine zo ?_
                    refine zB [(2, .sl (.int .i64) word), (3, .bp 3 0), (4, .bp 4 0), (7, .bp 7 0), (82, .int .i64 v0_9.1), (83, .int .i64 st1), (84, .bool (decide (st1 < v0_9.1)))] [(3, .box 24 [.int .i64 s.1, .int .i64 s.2.1, .sl (.sl (.int .i64)) s.2.2.1, .sl (.sl (.int .i64)) s.2.2.2]), (4, .box 24 [.int .i64 t.1, .int .i64 t.2.1, .sl (.sl (.int .i64)) t.2.2.1, .sl (.sl (.int .i64)) t.2.2.2]), (7, .box 24 [.int .i64 v0_9.1, .int .i64 v0_9.2.1, .own 58000, .own 58001]), (58000, .arr 25 (.sl (.int .i64)) v0_9.2.2.1), (58001, .arr 25 (.sl (.int .i64)) v0_9.2.2.2.1)] ?_
                    refine AW.seq ?_
                    refine zQ h (fun hb75 h => ?_) (fun hb75 h => ?_)
                    ·
                      refine zk ?_
                      refine AW.have1 (fun _ : Unit => lineallaw01_SpecSides_k2 st1 = some x73) (fun _ => ⟨fr [(2, .sl (.int .i64) word), (3, .bp 3 0), (4, .bp 4 0), (7, .bp 7 0), (82, .int .i64 v0_9.1), (83, .int .i64 st1)], hpGet [(3, .box 24 [.int .i64 s.1, .int .i64 s.2.1, .sl (.sl (.int .i64)) s.2.2.1, .sl (.sl (.int .i64)) s.2.2.2]), (4, .box 24 [.int .i64 t.1, .int .i64 t.2.1, .sl (.sl (.int .i64)) t.2.2.1, .sl (.sl (.int .i64)) t.2.2.2]), (7, .box 24 [.int .i64 v0_9.1, .int .i64 v0_9.2.1, .own 58000, .own 58001]), (58000, .arr 25 (.sl (.int .i64)) v0_9.2.2.1), (58001, .arr 25 (.sl (.int .i64)) v0_9.2.2.2.1)], gt⟩) (fun _ h => ?_) (fun hk_lineallaw01_SpecSides_k2 => ?_)
                      · unfold lineallaw01_SpecSides_k2 at h
                        refine AW.ops ?_
                        obtain ⟨c76, h⟩ := ck_some.1 h
                        refine zA [(2, .sl (.int .i64) word), (3, .bp 3 0), (4, .bp 4 0), (7, .bp 7 0), (82, .int .i64 v0_9.1), (83, .int .i64 (st1 + 1))] [(3, .box 24 [.int .i64 s.1, .int .i64 s.2.1, .sl (.sl (.int .i64)) s.2.2.1, .sl (.sl (.int .i64)) s.2.2.2]), (4, .box 24 [.int .i64 t.1, .int .i64 t.2.1, .sl (.sl (.int .i64)) t.2.2.1, .sl (.sl (.int .i64)) t.2.2.2]), (7, .box 24 [.int .i64 v0_9.1, .int .i64 v0_9.2.1, .own 58000, .own 58001]), (58000, .arr 25 (.sl (.int .i64)) v0_9.2.2.1), (58001, .arr 25 (.sl (.int .i64)) v0_9.2.2.2.1)] ?_
                        obtain rfl := Option.some.inj h
                        exact ⟨_, rfl, zL [] [] []⟩
                      · refine AW.seq ?_
                        refine AW.block ?_
                        refine zo ?_
                        refine zB [(2, .sl (.int .i64) word), (3, .bp 3 0), (4, .bp 4 0), (7, .bp 7 0), (9, .int .i64 st1), (82, .int .i64 v0_9.1), (83, .int .i64 st1)] [(3, .box 24 [.int .i64 s.1, .int .i64 s.2.1, .sl (.sl (.int .i64)) s.2.2.1, .sl (.sl (.int .i64)) s.2.2.2]), (4, .box 24 [.int .i64 t.1, .int .i64 t.2.1, .sl (.sl (.int .i64)) t.2.2.1, .sl (.sl (.int .i64)) t.2.2.2]), (7, .box 24 [.int .i64 v0_9.1, .int .i64 v0_9.2.1, .own 58000, .own 58001]), (58000, .arr 25 (.sl (.int .i64)) v0_9.2.2.1), (58001, .arr 25 (.sl (.int .i64)) v0_9.2.2.2.1)] ?_
                        refine zo ?_
                        refine zB [(2, .sl (.int .i64) word), (3, .bp 3 0), (4, .bp 4 0), (7, .bp 7 0), (9, .int .i64 st1), (82, .int .i64 v0_9.1), (83, .int .i64 st1), (87, .int .i64 s.2.1), (88, .int .i64 0)] [(3, .box 24 [.int .i64 s.1, .int .i64 s.2.1, .sl (.sl (.int .i64)) s.2.2.1, .sl (.sl (.int .i64)) s.2.2.2]), (4, .box 24 [.int .i64 t.1, .int .i64 t.2.1, .sl (.sl (.int .i64)) t.2.2.1, .sl (.sl (.int .i64)) t.2.2.2]), (7, .box 24 [.int .i64 v0_9.1, .int .i64 v0_9.2.1, .own 58000, .own 58001]), (58000, .arr 25 (.sl (.int .i64)) v0_9.2.2.1), (58001, .arr 25 (.sl (.int .i64)) v0_9.2.2.2.1)] ?_
                        refine AW.block ?_
                        obtain ⟨rv81, hw77, ho78⟩ := Option.bind_eq_some_iff.1 h
                        refine AW.loopO (lineallaw01_SpecSides_b2 s t v0_9 st1) (fun st2 => ⟨fr [(2, .sl (.int .i64) word), (3, .bp 3 0), (4, .bp 4 0), (7, .bp 7 0), (9, .int .i64 st1), (82, .int .i64 v0_9.1), (83, .int .i64 st1), (87, .int .i64 s.2.1), (88, .int .i64 st2)], hpGet [(3, .box 24 [.int .i64 s.1, .int .i64 s.2.1, .sl (.sl (.int .i64)) s.2.2.1, .sl (.sl (.int .i64)) s.2.2.2]), (4, .box 24 [.int .i64 t.1, .int .i64 t.2.1, .sl (.sl (.int .i64)) t.2.2.1, .sl (.sl (.int .i64)) t.2.2.2]), (7, .box 24 [.int .i64 v0_9.1, .int .i64 v0_9.2.1, .own 58000, .own 58001]), (58000, .arr 25 (.sl (.int .i64)) v0_9.2.2.1), (58001, .arr 25 (.sl (.int .i64)) v0_9.2.2.2.1)], gt⟩) 0 hw77 (zL [] [] []) ?_
                        intro st2 x80 h hd79
                        unfold lineallaw01_SpecSides_b2 at h
                        refine zo ?_
                        refine zB [(2, .sl (.int .i64) word), (3, .bp 3 0), (4, .bp 4 0), (7, .bp 7 0), (9, .int .i64 st1), (82, .int .i64 v0_9.1), (83, .int .i64 st1), (87, .int .i64 s.2.1), (88, .int .i64 st2), (89, .bool (decide (st2 < s.2.1)))] [(3, .box 24 [.int .i64 s.1, .int .i64 s.2.1, .sl (.sl (.int .i64)) s.2.2.1, .sl (.sl (.int .i64)) s.2.2.2]), (4, .box 24 [.int .i64 t.1, .int .i64 t.2.1, .sl (.sl (.int .i64)) t.2.2.1, .sl (.sl (.int .i64)) t.2.2.2]), (7, .box 24 [.int .i64 v0_9.1, .int .i64 v0_9.2.1, .own 58000, .own 58001]), (58000, .arr 25 (.sl (.int .i64)) v0_9.2.2.1), (58001, .arr 25 (.sl (.int .i64)) v0_9.2.2.2.1)] ?_
                        refine AW.seq ?_
                        refine zQ h (fun hb82 h => ?_) (fun hb82 h => ?_)
                        ·
                          refine zk ?_
                          refine AW.have1 (fun _ : Unit => lineallaw01_SpecSides_k3 st2 = some x80) (fun _ => ⟨fr [(2, .sl (.int .i64) word), (3, .bp 3 0), (4, .bp 4 0), (7, .bp 7 0), (9, .int .i64 st1), (82, .int .i64 v0_9.1), (83, .int .i64 st1), (87, .int .i64 s.2.1), (88, .int .i64 st2)], hpGet [(3, .box 24 [.int .i64 s.1, .int .i64 s.2.1, .sl (.sl (.int .i64)) s.2.2.1, .sl (.sl (.int .i64)) s.2.2.2]), (4, .box 24 [.int .i64 t.1, .int .i64 t.2.1, .sl (.sl (.int .i64)) t.2.2.1, .sl (.sl (.int .i64)) t.2.2.2]), (7, .box 24 [.int .i64 v0_9.1, .int .i64 v0_9.2.1, .own 58000, .own 58001]), (58000, .arr 25 (.sl (.int .i64)) v0_9.2.2.1), (58001, .arr 25 (.sl (.int .i64)) v0_9.2.2.2.1)], gt⟩) (fun _ h => ?_) (fun hk_lineallaw01_SpecSides_k3 => ?_)
                          · unfold lineallaw01_SpecSides_k3 at h
                            refine AW.ops ?_
                            obtain ⟨c83, h⟩ := ck_some.1 h
                            refine zA [(2, .sl (.int .i64) word), (3, .bp 3 0), (4, .bp 4 0), (7, .bp 7 0), (9, .int .i64 st1), (82, .int .i64 v0_9.1), (83, .int .i64 st1), (87, .int .i64 s.2.1), (88, .int .i64 (st2 + 1))] [(3, .box 24 [.int .i64 s.1, .int .i64 s.2.1, .sl (.sl (.int .i64)) s.2.2.1, .sl (.sl (.int .i64)) s.2.2.2]), (4, .box 24 [.int .i64 t.1, .int .i64 t.2.1, .sl (.sl (.int .i64)) t.2.2.1, .sl (.sl (.int .i64)) t.2.2.2]), (7, .box 24 [.int .i64 v0_9.1, .int .i64 v0_9.2.1, .own 58000, .own 58001]), (58000, .arr 25 (.sl (.int .i64)) v0_9.2.2.1), (58001, .arr 25 (.sl (.int .i64)) v0_9.2.2.2.1)] ?_
                            obtain rfl := Option.some.inj h
                            exact ⟨_, rfl, zL [] [] []⟩
                          · refine AW.seq ?_
                            refine AW.block ?_
                            refine zo ?_
                            refine zB [(2, .sl (.int .i64) word), (3, .bp 3 0), (4, .bp 4 0), (7, .bp 7 0), (9, .int .i64 st1), (10, .int .i64 st2), (82, .int .i64 v0_9.1), (83, .int .i64 st1), (87, .int .i64 s.2.1), (88, .int .i64 st2)] [(3, .box 24 [.int .i64 s.1, .int .i64 s.2.1, .sl (.sl (.int .i64)) s.2.2.1, .sl (.sl (.int .i64)) s.2.2.2]), (4, .box 24 [.int .i64 t.1, .int .i64 t.2.1, .sl (.sl (.int .i64)) t.2.2.1, .sl (.sl (.int .i64)) t.2.2.2]), (7, .box 24 [.int .i64 v0_9.1, .int .i64 v0_9.2.1, .own 58000, .own 58001]), (58000, .arr 25 (.sl (.int .i64)) v0_9.2.2.1), (58001, .arr 25 (.sl (.int .i64)) v0_9.2.2.2.1)] ?_
                            refine zo ?_
                            refine zB [(2, .sl (.int .i64) word), (3, .bp 3 0), (4, .bp 4 0), (7, .bp 7 0), (9, .int .i64 st1), (10, .int .i64 st2), (82, .int .i64 v0_9.1), (83, .int .i64 st1), (87, .int .i64 s.2.1), (88, .int .i64 st2), (92, .int .i64 t.2.1), (93, .int .i64 0)] [(3, .box 24 [.int .i64 s.1, .int .i64 s.2.1, .sl (.sl (.int .i64)) s.2.2.1, .sl (.sl (.int .i64)) s.2.2.2]), (4, .box 24 [.int .i64 t.1, .int .i64 t.2.1, .sl (.sl (.int .i64)) t.2.2.1, .sl (.sl (.int .i64)) t.2.2.2]), (7, .box 24 [.int .i64 v0_9.1, .int .i64 v0_9.2.1, .own 58000, .own 58001]), (58000, .arr 25 (.sl (.int .i64)) v0_9.2.2.1), (58001, .arr 25 (.sl (.int .i64)) v0_9.2.2.2.1)] ?_
                            refine AW.block ?_
                            obtain ⟨rv88, hw84, ho85⟩ := Option.bind_eq_some_iff.1 h
                            refine AW.loopO (lineallaw01_SpecSides_b3 s t v0_9 st1 st2) (fun st3 => ⟨fr [(2, .sl (.int .i64) word), (3, .bp 3 0), (4, .bp 4 0), (7, .bp 7 0), (9, .int .i64 st1), (10, .int .i64 st2), (82, .int .i64 v0_9.1), (83, .int .i64 st1), (87, .int .i64 s.2.1), (88, .int .i64 st2), (92, .int .i64 t.2.1), (93, .int .i64 st3)], hpGet [(3, .box 24 [.int .i64 s.1, .int .i64 s.2.1, .sl (.sl (.int .i64)) s.2.2.1, .sl (.sl (.int .i64)) s.2.2.2]), (4, .box 24 [.int .i64 t.1, .int .i64 t.2.1, .sl (.sl (.int .i64)) t.2.2.1, .sl (.sl (.int .i64)) t.2.2.2]), (7, .box 24 [.int .i64 v0_9.1, .int .i64 v0_9.2.1, .own 58000, .own 58001]), (58000, .arr 25 (.sl (.int .i64)) v0_9.2.2.1), (58001, .arr 25 (.sl (.int .i64)) v0_9.2.2.2.1)], gt⟩) 0 hw84 (zL [] [] []) ?_
                            intro st3 x87 h hd86
                            unfold lineallaw01_SpecSides_b3 at h
                            refine zo ?_
                            refine zB [(2, .sl (.int .i64) word), (3, .bp 3 0), (4, .bp 4 0), (7, .bp 7 0), (9, .int .i64 st1), (10, .int .i64 st2), (82, .int .i64 v0_9.1), (83, .int .i64 st1), (87, .int .i64 s.2.1), (88, .int .i64 st2), (92, .int .i64 t.2.1), (93, .int .i64 st3), (94, .bool (decide (st3 < t.2.1)))] [(3, .box 24 [.int .i64 s.1, .int .i64 s.2.1, .sl (.sl (.int .i64)) s.2.2.1, .sl (.sl (.int .i64)) s.2.2.2]), (4, .box 24 [.int .i64 t.1, .int .i64 t.2.1, .sl (.sl (.int .i64)) t.2.2.1, .sl (.sl (.int .i64)) t.2.2.2]), (7, .box 24 [.int .i64 v0_9.1, .int .i64 v0_9.2.1, .own 58000, .own 58001]), (58000, .arr 25 (.sl (.int .i64)) v0_9.2.2.1), (58001, .arr 25 (.sl (.int .i64)) v0_9.2.2.2.1)] ?_
                            refine AW.seq ?_
                            refine zQ h (fun hb89 h => ?_) (fun hb89 h => ?_)
                            ·
                              refine zk ?_
                              refine AW.seq ?_
                              refine AW.block ?_
                              refine zo ?_
                              refine zB [(2, .sl (.int .i64) word), (3, .bp 3 0), (4, .bp 4 0), (7, .bp 7 0), (9, .int .i64 st1), (10, .int .i64 st2), (11, .int .i64 st3), (82, .int .i64 v0_9.1), (83, .int .i64 st1), (87, .int .i64 s.2.1), (88, .int .i64 st2), (92, .int .i64 t.2.1), (93, .int .i64 st3)] [(3, .box 24 [.int .i64 s.1, .int .i64 s.2.1, .sl (.sl (.int .i64)) s.2.2.1, .sl (.sl (.int .i64)) s.2.2.2]), (4, .box 24 [.int .i64 t.1, .int .i64 t.2.1, .sl (.sl (.int .i64)) t.2.2.1, .sl (.sl (.int .i64)) t.2.2.2]), (7, .box 24 [.int .i64 v0_9.1, .int .i64 v0_9.2.1, .own 58000, .own 58001]), (58000, .arr 25 (.sl (.int .i64)) v0_9.2.2.1), (58001, .arr 25 (.sl (.int .i64)) v0_9.2.2.2.1)] ?_
                              refine zo ?_
                              obtain ⟨c90, h⟩ := ck_some.1 h
                              refine zS 7 [(2, .sl (.int .i64) word), (3, .bp 3 0), (4, .bp 4 0), (7, .bp 7 0), (9, .int .i64 st1), (10, .int .i64 st2), (82, .int .i64 v0_9.1), (83, .int .i64 st1), (87, .int .i64 s.2.1), (88, .int .i64 st2), (92, .int .i64 t.2.1), (93, .int .i64 st3), (97, .agg [.int .i64 v0_9.1, .int .i64 v0_9.2.1, .own 58000, .own 58001]), (98, .int .i64 st1), (99, .int .i64 st2), (103, .int .i64 (s.2.1 + st3))] [(3, .box 24 [.int .i64 s.1, .int .i64 s.2.1, .sl (.sl (.int .i64)) s.2.2.1, .sl (.sl (.int .i64)) s.2.2.2]), (4, .box 24 [.int .i64 t.1, .int .i64 t.2.1, .sl (.sl (.int .i64)) t.2.2.1, .sl (.sl (.int .i64)) t.2.2.2]), (7, .box 24 [.int .i64 v0_9.1, .int .i64 v0_9.2.1, .own 58000, .own 58001]), (58000, .arr 25 (.sl (.int .i64)) v0_9.2.2.1), (58001, .arr 25 (.sl (.int .i64)) v0_9.2.2.2.1)] ?_
                              obtain ⟨v0_12, hv91, h⟩ := Option.bind_eq_some_iff.1 h
                              refine zC [58000, 58001] [] (hc_spec_Commute (v0_9.1, v0_9.2.1, v0_9.2.2.1, v0_9.2.2.2.1) st1 st2 (s.2.1 + st3) hv91) [(2, .sl (.int .i64) word), (3, .bp 3 0), (4, .bp 4 0), (7, .bp 7 0), (9, .int .i64 st1), (10, .int .i64 st2), (82, .int .i64 v0_9.1), (83, .int .i64 st1), (87, .int .i64 s.2.1), (88, .int .i64 st2), (92, .int .i64 t.2.1), (93, .int .i64 st3), (104, .tup [.bool v0_12.1, .int .i64 v0_12.2])] [(3, .box 24 [.int .i64 s.1, .int .i64 s.2.1, .sl (.sl (.int .i64)) s.2.2.1, .sl (.sl (.int .i64)) s.2.2.2]), (4, .box 24 [.int .i64 t.1, .int .i64 t.2.1, .sl (.sl (.int .i64)) t.2.2.1, .sl (.sl (.int .i64)) t.2.2.2]), (7, .box 24 [.int .i64 v0_9.1, .int .i64 v0_9.2.1, .own 58000, .own 58001]), (58000, .arr 25 (.sl (.int .i64)) v0_9.2.2.1), (58001, .arr 25 (.sl (.int .i64)) v0_9.2.2.2.1)] ?_
                              refine zB [(2, .sl (.int .i64) word), (3, .bp 3 0), (4, .bp 4 0), (7, .bp 7 0), (9, .int .i64 st1), (10, .int .i64 st2), (12, .bool v0_12.1), (13, .int .i64 v0_12.2), (82, .int .i64 v0_9.1), (83, .int .i64 st1), (87, .int .i64 s.2.1), (88, .int .i64 st2), (92, .int .i64 t.2.1), (93, .int .i64 st3)] [(3, .box 24 [.int .i64 s.1, .int .i64 s.2.1, .sl (.sl (.int .i64)) s.2.2.1, .sl (.sl (.int .i64)) s.2.2.2]), (4, .box 24 [.int .i64 t.1, .int .i64 t.2.1, .sl (.sl (.int .i64)) t.2.2.1, .sl (.sl (.int .i64)) t.2.2.2]), (7, .box 24 [.int .i64 v0_9.1, .int .i64 v0_9.2.1, .own 58000, .own 58001]), (58000, .arr 25 (.sl (.int .i64)) v0_9.2.2.1), (58001, .arr 25 (.sl (.int .i64)) v0_9.2.2.2.1)] ?_
                              refine zo ?_
                              refine zS 3 [(2, .sl (.int .i64) word), (3, .bp 3 0), (4, .bp 4 0), (7, .bp 7 0), (9, .int .i64 st1), (10, .int .i64 st2), (12, .bool v0_12.1), (82, .int .i64 v0_9.1), (83, .int .i64 st1), (87, .int .i64 s.2.1), (88, .int .i64 st2), (92, .int .i64 t.2.1), (93, .int .i64 st3), (109, .bool (!(decide (v0_12.2 = 0))))] [(3, .box 24 [.int .i64 s.1, .int .i64 s.2.1, .sl (.sl (.int .i64)) s.2.2.1, .sl (.sl (.int .i64)) s.2.2.2]), (4, .box 24 [.int .i64 t.1, .int .i64 t.2.1, .sl (.sl (.int .i64)) t.2.2.1, .sl (.sl (.int .i64)) t.2.2.2]), (7, .box 24 [.int .i64 v0_9.1, .int .i64 v0_9.2.1, .own 58000, .own 58001]), (58000, .arr 25 (.sl (.int .i64)) v0_9.2.2.1), (58001, .arr 25 (.sl (.int .i64)) v0_9.2.2.2.1)] ?_
                              rcases zI h with ⟨hb92, h⟩ | ⟨hb92, h⟩
                              ·
                                refine zT [(2, .sl (.int .i64) word), (3, .bp 3 0), (4, .bp 4 0), (7, .bp 7 0), (9, .int .i64 st1), (10, .int .i64 st2), (12, .bool v0_12.1), (82, .int .i64 v0_9.1), (83, .int .i64 st1), (87, .int .i64 s.2.1), (88, .int .i64 st2), (92, .int .i64 t.2.1), (93, .int .i64 st3), (109, .bool true)] [(3, .box 24 [.int .i64 s.1, .int .i64 s.2.1, .sl (.sl (.int .i64)) s.2.2.1, .sl (.sl (.int .i64)) s.2.2.2]), (4, .box 24 [.int .i64 t.1, .int .i64 t.2.1, .sl (.sl (.int .i64)) t.2.2.1, .sl (.sl (.int .i64)) t.2.2.2]), (7, .box 24 [.int .i64 v0_9.1, .int .i64 v0_9.2.1, .own 58000, .own 58001]), (58000, .arr 25 (.sl (.int .i64)) v0_9.2.2.1), (58001, .arr 25 (.sl (.int .i64)) v0_9.2.2.2.1)] gt ?_
                                refine zB [(2, .sl (.int .i64) word), (3, .bp 3 0), (4, .bp 4 0), (7, .bp 7 0), (9, .int .i64 st1), (10, .int .i64 st2), (82, .int .i64 v0_9.1), (83, .int .i64 st1), (87, .int .i64 s.2.1), (88, .int .i64 st2), (92, .int .i64 t.2.1), (93, .int .i64 st3), (112, .bool true)] [(3, .box 24 [.int .i64 s.1, .int .i64 s.2.1, .sl (.sl (.int .i64)) s.2.2.1, .sl (.sl (.int .i64)) s.2.2.2]), (4, .box 24 [.int .i64 t.1, .int .i64 t.2.1, .sl (.sl (.int .i64)) t.2.2.1, .sl (.sl (.int .i64)) t.2.2.2]), (7, .box 24 [.int .i64 v0_9.1, .int .i64 v0_9.2.1, .own 58000, .own 58001]), (58000, .arr 25 (.sl (.int .i64)) v0_9.2.2.1), (58001, .arr 25 (.sl (.int .i64)) v0_9.2.2.2.1)] ?_
                                refine AW.cond (b := true) rfl (fun _ => ?_) (fun hb93 => by cases hb93)
                                refine zo ?_
                                refine zB [(6, .bool false)] [] ?_
                                refine AW.ret ?_
                                refine ablock_r ?_
                                refine athen_r ?_
                                obtain rfl := Option.some.inj h
                                rw [← hd86 _ rfl] at ho85
                                have h := ho85
                                try simp only at h
                                refine athen_r ?_
                                refine ablock_r ?_
                                refine ablock_r ?_
                                refine athen_r ?_
                                obtain rfl := Option.some.inj h
                                rw [← hd79 _ rfl] at ho78
                                have h := ho78
                                try simp only at h
                                refine athen_r ?_
                                refine ablock_r ?_
                                refine ablock_r ?_
                                refine athen_r ?_
                                obtain rfl := Option.some.inj h
                                rw [← hd72 _ rfl] at ho71
                                have h := ho71
                                try simp only at h
                                refine athen_r ?_
                                refine ablock_r ?_
                                refine athen_r ?_
                                obtain rfl := Option.some.inj h
                                exact zR [] [] []
                              ·
                                refine zT [(2, .sl (.int .i64) word), (3, .bp 3 0), (4, .bp 4 0), (7, .bp 7 0), (9, .int .i64 st1), (10, .int .i64 st2), (12, .bool v0_12.1), (82, .int .i64 v0_9.1), (83, .int .i64 st1), (87, .int .i64 s.2.1), (88, .int .i64 st2), (92, .int .i64 t.2.1), (93, .int .i64 st3), (109, .bool false)] [(3, .box 24 [.int .i64 s.1, .int .i64 s.2.1, .sl (.sl (.int .i64)) s.2.2.1, .sl (.sl (.int .i64)) s.2.2.2]), (4, .box 24 [.int .i64 t.1, .int .i64 t.2.1, .sl (.sl (.int .i64)) t.2.2.1, .sl (.sl (.int .i64)) t.2.2.2]), (7, .box 24 [.int .i64 v0_9.1, .int .i64 v0_9.2.1, .own 58000, .own 58001]), (58000, .arr 25 (.sl (.int .i64)) v0_9.2.2.1), (58001, .arr 25 (.sl (.int .i64)) v0_9.2.2.2.1)] gt ?_
                                refine zB [(2, .sl (.int .i64) word), (3, .bp 3 0), (4, .bp 4 0), (7, .bp 7 0), (9, .int .i64 st1), (10, .int .i64 st2), (82, .int .i64 v0_9.1), (83, .int .i64 st1), (87, .int .i64 s.2.1), (88, .int .i64 st2), (92, .int .i64 t.2.1), (93, .int .i64 st3), (112, .bool (!v0_12.1))] [(3, .box 24 [.int .i64 s.1, .int .i64 s.2.1, .sl (.sl (.int .i64)) s.2.2.1, .sl (.sl (.int .i64)) s.2.2.2]), (4, .box 24 [.int .i64 t.1, .int .i64 t.2.1, .sl (.sl (.int .i64)) t.2.2.1, .sl (.sl (.int .i64)) t.2.2.2]), (7, .box 24 [.int .i64 v0_9.1, .int .i64 v0_9.2.1, .own 58000, .own 58001]), (58000, .arr 25 (.sl (.int .i64)) v0_9.2.2.1), (58001, .arr 25 (.sl (.int .i64)) v0_9.2.2.2.1)] ?_
                                refine zQ h (fun hb94 h => ?_) (fun hb94 h => ?_)
                                ·
                                  refine zo ?_
                                  refine zB [(6, .bool false)] [] ?_
                                  refine AW.ret ?_
                                  refine ablock_r ?_
                                  refine athen_r ?_
                                  obtain rfl := Option.some.inj h
                                  rw [← hd86 _ rfl] at ho85
                                  have h := ho85
                                  try simp only at h
                                  refine athen_r ?_
                                  refine ablock_r ?_
                                  refine ablock_r ?_
                                  refine athen_r ?_
                                  obtain rfl := Option.some.inj h
                                  rw [← hd79 _ rfl] at ho78
                                  have h := ho78
                                  try simp only at h
                                  refine athen_r ?_
                                  refine ablock_r ?_
                                  refine ablock_r ?_
                                  refine athen_r ?_
                                  obtain rfl := Option.some.inj h
                                  rw [← hd72 _ rfl] at ho71
                                  have h := ho71
                                  try simp only at h
                                  refine athen_r ?_
                                  refine ablock_r ?_
                                  refine athen_r ?_
                                  obtain rfl := Option.some.inj h
                                  exact zR [] [] []
                                ·
                                  refine zm ?_
                                  refine athen_n ?_
                                  refine AW.ops ?_
                                  obtain ⟨c95, h⟩ := ck_some.1 h
                                  refine zA [(2, .sl (.int .i64) word), (3, .bp 3 0), (4, .bp 4 0), (7, .bp 7 0), (9, .int .i64 st1), (10, .int .i64 st2), (82, .int .i64 v0_9.1), (83, .int .i64 st1), (87, .int .i64 s.2.1), (88, .int .i64 st2), (92, .int .i64 t.2.1), (93, .int .i64 (st3 + 1))] [(3, .box 24 [.int .i64 s.1, .int .i64 s.2.1, .sl (.sl (.int .i64)) s.2.2.1, .sl (.sl (.int .i64)) s.2.2.2]), (4, .box 24 [.int .i64 t.1, .int .i64 t.2.1, .sl (.sl (.int .i64)) t.2.2.1, .sl (.sl (.int .i64)) t.2.2.2]), (7, .box 24 [.int .i64 v0_9.1, .int .i64 v0_9.2.1, .own 58000, .own 58001]), (58000, .arr 25 (.sl (.int .i64)) v0_9.2.2.1), (58001, .arr 25 (.sl (.int .i64)) v0_9.2.2.2.1)] ?_
                                  obtain rfl := Option.some.inj h
                                  exact ⟨_, rfl, zL [] [] []⟩
                            ·
                              refine AW.exit ?_
                              refine athen_e ?_
                              obtain rfl := Option.some.inj h
                              rw [← hd86 _ rfl] at ho85
                              have h := ho85
                              try simp only at h
                              refine athen_e ?_
                              refine ablock_s ?_
                              refine ablock_n ?_
                              refine athen_n ?_
                              exact AW.weaken (zL [] [] []) (hk_lineallaw01_SpecSides_k3 () h)
                        ·
                          refine AW.exit ?_
                          refine athen_e ?_
                          obtain rfl := Option.some.inj h
                          rw [← hd79 _ rfl] at ho78
                          have h := ho78
                          try simp only at h
                          refine athen_e ?_
                          refine ablock_s ?_
                          refine ablock_n ?_
                          refine athen_n ?_
                          exact AW.weaken (zL [] [] []) (hk_lineallaw01_SpecSides_k2 () h)
                    ·
                      refine AW.exit ?_
                      refine athen_e ?_
                      obtain rfl := Option.some.inj h
                      rw [← hd72 _ rfl] at ho71
                      have h := ho71
                      try simp only at h
                      refine athen_e ?_
                      refine ablock_s ?_
                      refine athen_n ?_
                      exact AW.weaken (zL [] [] []) (hk_lineallaw01_SpecSides_k1 () h)

end Go.Proofs.Ytfmokmhphfdbpaa
