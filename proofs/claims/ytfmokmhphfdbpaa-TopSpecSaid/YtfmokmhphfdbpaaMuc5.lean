/-
  Made by wip/tool/dc.py out of the print of the program: contracts.
-/
import Derived.Test.YtfmokmhphfdbpaaQp
import Derived.Test.YtfmokmhphfdbpaaShs
import Derived.Test.YtfmokmhphfdbpaaAvd
import Derived.Test.YtfmokmhphfdbpaaMuc1
import Derived.Test.YtfmokmhphfdbpaaMuc2
import Derived.Test.YtfmokmhphfdbpaaMuc3
import Derived.Test.YtfmokmhphfdbpaaMuc4
namespace Go.Proofs.Ytfmokmhphfdbpaa
open Go.RowKit

set_option linter.unusedSimpArgs false
set_option linter.unusedVariables false
set_option linter.constructorNameAsVariable false

set_option maxRecDepth 100000
set_option maxHeartbeats 2000000

theorem hc_linealtop_TopSpec (s : Int × Int × (List (List Int)) × (List (List Int))) (t : Int × Int × (List (List Int)) × (List (List Int))) (word : List Int) {r : Bool} (h : linealtop_TopSpec s t word = some r) : HC Try.prog 15 [] [.agg [.int .i64 s.1, .int .i64 s.2.1, .sl (.sl (.int .i64)) s.2.2.1, .sl (.sl (.int .i64)) s.2.2.2], .agg [.int .i64 t.1, .int .i64 t.2.1, .sl (.sl (.int .i64)) t.2.2.1, .sl (.sl (.int .i64)) t.2.2.2], .sl (.int .i64) word] [] (.bool r) := by
  unfold linealtop_TopSpec at h
  refine zH Try.func15 [.tmp 6] 259 ?_
  refine zo ?_
  refine zB [(2, .sl (.int .i64) word), (3, .bp 3 0), (4, .bp 4 0)] [(3, .box 24 [.int .i64 s.1, .int .i64 s.2.1, .sl (.sl (.int .i64)) s.2.2.1, .sl (.sl (.int .i64)) s.2.2.2]), (4, .box 24 [.int .i64 t.1, .int .i64 t.2.1, .sl (.sl (.int .i64)) t.2.2.1, .sl (.sl (.int .i64)) t.2.2.2])] ?_
  refine AW.seq ?_
  refine zo ?_
  refine zS 1 [(2, .sl (.int .i64) word), (3, .bp 3 0), (4, .bp 4 0), (31, .agg [.int .i64 s.1, .int .i64 s.2.1, .sl (.sl (.int .i64)) s.2.2.1, .sl (.sl (.int .i64)) s.2.2.2])] [(3, .box 24 [.int .i64 s.1, .int .i64 s.2.1, .sl (.sl (.int .i64)) s.2.2.1, .sl (.sl (.int .i64)) s.2.2.2]), (4, .box 24 [.int .i64 t.1, .int .i64 t.2.1, .sl (.sl (.int .i64)) t.2.2.1, .sl (.sl (.int .i64)) t.2.2.2])] ?_
  obtain ⟨v0, hv1, h⟩ := Option.bind_eq_some_iff.1 h
  refine zC [] [] (hc_lineallaw01_Long s hv1) [(2, .sl (.int .i64) word), (3, .bp 3 0), (4, .bp 4 0), (32, .bool v0)] [(3, .box 24 [.int .i64 s.1, .int .i64 s.2.1, .sl (.sl (.int .i64)) s.2.2.1, .sl (.sl (.int .i64)) s.2.2.2]), (4, .box 24 [.int .i64 t.1, .int .i64 t.2.1, .sl (.sl (.int .i64)) t.2.2.1, .sl (.sl (.int .i64)) t.2.2.2])] ?_
  refine zS 1 [(2, .sl (.int .i64) word), (3, .bp 3 0), (4, .bp 4 0), (33, .bool v0)] [(3, .box 24 [.int .i64 s.1, .int .i64 s.2.1, .sl (.sl (.int .i64)) s.2.2.1, .sl (.sl (.int .i64)) s.2.2.2]), (4, .box 24 [.int .i64 t.1, .int .i64 t.2.1, .sl (.sl (.int .i64)) t.2.2.1, .sl (.sl (.int .i64)) t.2.2.2])] ?_
  rcases zI h with ⟨hb2, h⟩ | ⟨hb2, h⟩
  ·
    refine zT [(2, .sl (.int .i64) word), (3, .bp 3 0), (4, .bp 4 0), (33, .bool true)] [(3, .box 24 [.int .i64 s.1, .int .i64 s.2.1, .sl (.sl (.int .i64)) s.2.2.1, .sl (.sl (.int .i64)) s.2.2.2]), (4, .box 24 [.int .i64 t.1, .int .i64 t.2.1, .sl (.sl (.int .i64)) t.2.2.1, .sl (.sl (.int .i64)) t.2.2.2])] gt ?_
    refine zS 6 [(2, .sl (.int .i64) word), (3, .bp 3 0), (4, .bp 4 0), (37, .bool true), (39, .cv (undef))] [(3, .box 24 [.int .i64 s.1, .int .i64 s.2.1, .sl (.sl (.int .i64)) s.2.2.1, .sl (.sl (.int .i64)) s.2.2.2]), (4, .box 24 [.int .i64 t.1, .int .i64 t.2.1, .sl (.sl (.int .i64)) t.2.2.1, .sl (.sl (.int .i64)) t.2.2.2])] ?_
    refine zS 6 [(2, .sl (.int .i64) word), (3, .bp 3 0), (4, .bp 4 0), (42, .bool true), (45, .cv (undef))] [(3, .box 24 [.int .i64 s.1, .int .i64 s.2.1, .sl (.sl (.int .i64)) s.2.2.1, .sl (.sl (.int .i64)) s.2.2.2]), (4, .box 24 [.int .i64 t.1, .int .i64 t.2.1, .sl (.sl (.int .i64)) t.2.2.1, .sl (.sl (.int .i64)) t.2.2.2])] ?_
    refine zS 6 [(2, .sl (.int .i64) word), (3, .bp 3 0), (4, .bp 4 0), (47, .bool true), (51, .cv (undef))] [(3, .box 24 [.int .i64 s.1, .int .i64 s.2.1, .sl (.sl (.int .i64)) s.2.2.1, .sl (.sl (.int .i64)) s.2.2.2]), (4, .box 24 [.int .i64 t.1, .int .i64 t.2.1, .sl (.sl (.int .i64)) t.2.2.1, .sl (.sl (.int .i64)) t.2.2.2])] ?_
    refine zB [(2, .sl (.int .i64) word), (3, .bp 3 0), (4, .bp 4 0), (52, .bool true)] [(3, .box 24 [.int .i64 s.1, .int .i64 s.2.1, .sl (.sl (.int .i64)) s.2.2.1, .sl (.sl (.int .i64)) s.2.2.2]), (4, .box 24 [.int .i64 t.1, .int .i64 t.2.1, .sl (.sl (.int .i64)) t.2.2.1, .sl (.sl (.int .i64)) t.2.2.2])] ?_
    refine AW.cond (b := true) rfl (fun _ => ?_) (fun hb3 => by cases hb3)
    refine zo ?_
    obtain ⟨v0_2, hv4, h⟩ := Option.bind_eq_some_iff.1 h
    refine zC [] [] (hc_lineallaw01_Awake hv4) [(53, .bool v0_2)] [] ?_
    refine zB [(6, .bool v0_2)] [] ?_
    refine zr ?_
    obtain rfl := Option.some.inj h
    exact zR [] [] []
  ·
    refine zT [(2, .sl (.int .i64) word), (3, .bp 3 0), (4, .bp 4 0), (33, .bool false)] [(3, .box 24 [.int .i64 s.1, .int .i64 s.2.1, .sl (.sl (.int .i64)) s.2.2.1, .sl (.sl (.int .i64)) s.2.2.2]), (4, .box 24 [.int .i64 t.1, .int .i64 t.2.1, .sl (.sl (.int .i64)) t.2.2.1, .sl (.sl (.int .i64)) t.2.2.2])] gt ?_
    refine zS 1 [(2, .sl (.int .i64) word), (3, .bp 3 0), (4, .bp 4 0), (33, .bool false), (34, .agg [.int .i64 t.1, .int .i64 t.2.1, .sl (.sl (.int .i64)) t.2.2.1, .sl (.sl (.int .i64)) t.2.2.2])] [(3, .box 24 [.int .i64 s.1, .int .i64 s.2.1, .sl (.sl (.int .i64)) s.2.2.1, .sl (.sl (.int .i64)) s.2.2.2]), (4, .box 24 [.int .i64 t.1, .int .i64 t.2.1, .sl (.sl (.int .i64)) t.2.2.1, .sl (.sl (.int .i64)) t.2.2.2])] ?_
    obtain ⟨v0_3, hv5, h⟩ := Option.bind_eq_some_iff.1 h
    refine zG [] [] (hc_lineallaw01_Long t hv5) [(2, .sl (.int .i64) word), (3, .bp 3 0), (4, .bp 4 0), (33, .bool false), (35, .bool v0_3)] [(3, .box 24 [.int .i64 s.1, .int .i64 s.2.1, .sl (.sl (.int .i64)) s.2.2.1, .sl (.sl (.int .i64)) s.2.2.2]), (4, .box 24 [.int .i64 t.1, .int .i64 t.2.1, .sl (.sl (.int .i64)) t.2.2.1, .sl (.sl (.int .i64)) t.2.2.2])] ?_
    refine zS 2 [(2, .sl (.int .i64) word), (3, .bp 3 0), (4, .bp 4 0), (37, .bool v0_3)] [(3, .box 24 [.int .i64 s.1, .int .i64 s.2.1, .sl (.sl (.int .i64)) s.2.2.1, .sl (.sl (.int .i64)) s.2.2.2]), (4, .box 24 [.int .i64 t.1, .int .i64 t.2.1, .sl (.sl (.int .i64)) t.2.2.1, .sl (.sl (.int .i64)) t.2.2.2])] ?_
    rcases zI h with ⟨hb6, h⟩ | ⟨hb6, h⟩
    ·
      refine zT [(2, .sl (.int .i64) word), (3, .bp 3 0), (4, .bp 4 0), (37, .bool true)] [(3, .box 24 [.int .i64 s.1, .int .i64 s.2.1, .sl (.sl (.int .i64)) s.2.2.1, .sl (.sl (.int .i64)) s.2.2.2]), (4, .box 24 [.int .i64 t.1, .int .i64 t.2.1, .sl (.sl (.int .i64)) t.2.2.1, .sl (.sl (.int .i64)) t.2.2.2])] gt ?_
      refine zS 6 [(2, .sl (.int .i64) word), (3, .bp 3 0), (4, .bp 4 0), (42, .bool true), (43, .cv (undef))] [(3, .box 24 [.int .i64 s.1, .int .i64 s.2.1, .sl (.sl (.int .i64)) s.2.2.1, .sl (.sl (.int .i64)) s.2.2.2]), (4, .box 24 [.int .i64 t.1, .int .i64 t.2.1, .sl (.sl (.int .i64)) t.2.2.1, .sl (.sl (.int .i64)) t.2.2.2])] ?_
      refine zS 6 [(2, .sl (.int .i64) word), (3, .bp 3 0), (4, .bp 4 0), (47, .bool true), (48, .cv (undef)), (49, .cv (undef))] [(3, .box 24 [.int .i64 s.1, .int .i64 s.2.1, .sl (.sl (.int .i64)) s.2.2.1, .sl (.sl (.int .i64)) s.2.2.2]), (4, .box 24 [.int .i64 t.1, .int .i64 t.2.1, .sl (.sl (.int .i64)) t.2.2.1, .sl (.sl (.int .i64)) t.2.2.2])] ?_
      refine zB [(2, .sl (.int .i64) word), (3, .bp 3 0), (4, .bp 4 0), (52, .bool true)] [(3, .box 24 [.int .i64 s.1, .int .i64 s.2.1, .sl (.sl (.int .i64)) s.2.2.1, .sl (.sl (.int .i64)) s.2.2.2]), (4, .box 24 [.int .i64 t.1, .int .i64 t.2.1, .sl (.sl (.int .i64)) t.2.2.1, .sl (.sl (.int .i64)) t.2.2.2])] ?_
      refine AW.cond (b := true) rfl (fun _ => ?_) (fun hb7 => by cases hb7)
      refine zo ?_
      obtain ⟨v0_4, hv8, h⟩ := Option.bind_eq_some_iff.1 h
      refine zC [] [] (hc_lineallaw01_Awake hv8) [(53, .bool v0_4)] [] ?_
      refine zB [(6, .bool v0_4)] [] ?_
      refine zr ?_
      obtain rfl := Option.some.inj h
      exact zR [] [] []
    ·
      refine zT [(2, .sl (.int .i64) word), (3, .bp 3 0), (4, .bp 4 0), (37, .bool false)] [(3, .box 24 [.int .i64 s.1, .int .i64 s.2.1, .sl (.sl (.int .i64)) s.2.2.1, .sl (.sl (.int .i64)) s.2.2.2]), (4, .box 24 [.int .i64 t.1, .int .i64 t.2.1, .sl (.sl (.int .i64)) t.2.2.1, .sl (.sl (.int .i64)) t.2.2.2])] gt ?_
      refine zS 1 [(2, .sl (.int .i64) word), (3, .bp 3 0), (4, .bp 4 0), (37, .bool false), (38, .agg [.int .i64 s.1, .int .i64 s.2.1, .sl (.sl (.int .i64)) s.2.2.1, .sl (.sl (.int .i64)) s.2.2.2])] [(3, .box 24 [.int .i64 s.1, .int .i64 s.2.1, .sl (.sl (.int .i64)) s.2.2.1, .sl (.sl (.int .i64)) s.2.2.2]), (4, .box 24 [.int .i64 t.1, .int .i64 t.2.1, .sl (.sl (.int .i64)) t.2.2.1, .sl (.sl (.int .i64)) t.2.2.2])] ?_
      obtain ⟨v0_5, hv9, h⟩ := Option.bind_eq_some_iff.1 h
      refine zG [] [] (hc_linealref01_Valid s hv9) [(2, .sl (.int .i64) word), (3, .bp 3 0), (4, .bp 4 0), (37, .bool false), (39, .bool v0_5)] [(3, .box 24 [.int .i64 s.1, .int .i64 s.2.1, .sl (.sl (.int .i64)) s.2.2.1, .sl (.sl (.int .i64)) s.2.2.2]), (4, .box 24 [.int .i64 t.1, .int .i64 t.2.1, .sl (.sl (.int .i64)) t.2.2.1, .sl (.sl (.int .i64)) t.2.2.2])] ?_
      refine zS 3 [(2, .sl (.int .i64) word), (3, .bp 3 0), (4, .bp 4 0), (42, .bool (!v0_5))] [(3, .box 24 [.int .i64 s.1, .int .i64 s.2.1, .sl (.sl (.int .i64)) s.2.2.1, .sl (.sl (.int .i64)) s.2.2.2]), (4, .box 24 [.int .i64 t.1, .int .i64 t.2.1, .sl (.sl (.int .i64)) t.2.2.1, .sl (.sl (.int .i64)) t.2.2.2])] ?_
      rcases zI h with ⟨hb10, h⟩ | ⟨hb10, h⟩
      ·
        refine zT [(2, .sl (.int .i64) word), (3, .bp 3 0), (4, .bp 4 0), (42, .bool true)] [(3, .box 24 [.int .i64 s.1, .int .i64 s.2.1, .sl (.sl (.int .i64)) s.2.2.1, .sl (.sl (.int .i64)) s.2.2.2]), (4, .box 24 [.int .i64 t.1, .int .i64 t.2.1, .sl (.sl (.int .i64)) t.2.2.1, .sl (.sl (.int .i64)) t.2.2.2])] gt ?_
        refine zS 6 [(2, .sl (.int .i64) word), (3, .bp 3 0), (4, .bp 4 0), (47, .bool true), (48, .cv (undef))] [(3, .box 24 [.int .i64 s.1, .int .i64 s.2.1, .sl (.sl (.int .i64)) s.2.2.1, .sl (.sl (.int .i64)) s.2.2.2]), (4, .box 24 [.int .i64 t.1, .int .i64 t.2.1, .sl (.sl (.int .i64)) t.2.2.1, .sl (.sl (.int .i64)) t.2.2.2])] ?_
        refine zB [(2, .sl (.int .i64) word), (3, .bp 3 0), (4, .bp 4 0), (52, .bool true)] [(3, .box 24 [.int .i64 s.1, .int .i64 s.2.1, .sl (.sl (.int .i64)) s.2.2.1, .sl (.sl (.int .i64)) s.2.2.2]), (4, .box 24 [.int .i64 t.1, .int .i64 t.2.1, .sl (.sl (.int .i64)) t.2.2.1, .sl (.sl (.int .i64)) t.2.2.2])] ?_
        refine AW.cond (b := true) rfl (fun _ => ?_) (fun hb11 => by cases hb11)
        refine zo ?_
        obtain ⟨v0_6, hv12, h⟩ := Option.bind_eq_some_iff.1 h
        refine zC [] [] (hc_lineallaw01_Awake hv12) [(53, .bool v0_6)] [] ?_
        refine zB [(6, .bool v0_6)] [] ?_
        refine zr ?_
        obtain rfl := Option.some.inj h
        exact zR [] [] []
      ·
        refine zT [(2, .sl (.int .i64) word), (3, .bp 3 0), (4, .bp 4 0), (42, .bool false)] [(3, .box 24 [.int .i64 s.1, .int .i64 s.2.1, .sl (.sl (.int .i64)) s.2.2.1, .sl (.sl (.int .i64)) s.2.2.2]), (4, .box 24 [.int .i64 t.1, .int .i64 t.2.1, .sl (.sl (.int .i64)) t.2.2.1, .sl (.sl (.int .i64)) t.2.2.2])] gt ?_
        refine zS 1 [(2, .sl (.int .i64) word), (3, .bp 3 0), (4, .bp 4 0), (42, .bool false), (43, .agg [.int .i64 t.1, .int .i64 t.2.1, .sl (.sl (.int .i64)) t.2.2.1, .sl (.sl (.int .i64)) t.2.2.2])] [(3, .box 24 [.int .i64 s.1, .int .i64 s.2.1, .sl (.sl (.int .i64)) s.2.2.1, .sl (.sl (.int .i64)) s.2.2.2]), (4, .box 24 [.int .i64 t.1, .int .i64 t.2.1, .sl (.sl (.int .i64)) t.2.2.1, .sl (.sl (.int .i64)) t.2.2.2])] ?_
        obtain ⟨v0_7, hv13, h⟩ := Option.bind_eq_some_iff.1 h
        refine zG [] [] (hc_linealref01_Valid t hv13) [(2, .sl (.int .i64) word), (3, .bp 3 0), (4, .bp 4 0), (42, .bool false), (44, .bool v0_7)] [(3, .box 24 [.int .i64 s.1, .int .i64 s.2.1, .sl (.sl (.int .i64)) s.2.2.1, .sl (.sl (.int .i64)) s.2.2.2]), (4, .box 24 [.int .i64 t.1, .int .i64 t.2.1, .sl (.sl (.int .i64)) t.2.2.1, .sl (.sl (.int .i64)) t.2.2.2])] ?_
        refine zS 3 [(2, .sl (.int .i64) word), (3, .bp 3 0), (4, .bp 4 0), (47, .bool (!v0_7))] [(3, .box 24 [.int .i64 s.1, .int .i64 s.2.1, .sl (.sl (.int .i64)) s.2.2.1, .sl (.sl (.int .i64)) s.2.2.2]), (4, .box 24 [.int .i64 t.1, .int .i64 t.2.1, .sl (.sl (.int .i64)) t.2.2.1, .sl (.sl (.int .i64)) t.2.2.2])] ?_
        rcases zI h with ⟨hb14, h⟩ | ⟨hb14, h⟩
        ·
          refine zT [(2, .sl (.int .i64) word), (3, .bp 3 0), (4, .bp 4 0), (47, .bool true)] [(3, .box 24 [.int .i64 s.1, .int .i64 s.2.1, .sl (.sl (.int .i64)) s.2.2.1, .sl (.sl (.int .i64)) s.2.2.2]), (4, .box 24 [.int .i64 t.1, .int .i64 t.2.1, .sl (.sl (.int .i64)) t.2.2.1, .sl (.sl (.int .i64)) t.2.2.2])] gt ?_
          refine zS 4 [(2, .sl (.int .i64) word), (3, .bp 3 0), (4, .bp 4 0), (47, .bool true), (51, .cv (undef))] [(3, .box 24 [.int .i64 s.1, .int .i64 s.2.1, .sl (.sl (.int .i64)) s.2.2.1, .sl (.sl (.int .i64)) s.2.2.2]), (4, .box 24 [.int .i64 t.1, .int .i64 t.2.1, .sl (.sl (.int .i64)) t.2.2.1, .sl (.sl (.int .i64)) t.2.2.2])] ?_
          refine zB [(2, .sl (.int .i64) word), (3, .bp 3 0), (4, .bp 4 0), (52, .bool true)] [(3, .box 24 [.int .i64 s.1, .int .i64 s.2.1, .sl (.sl (.int .i64)) s.2.2.1, .sl (.sl (.int .i64)) s.2.2.2]), (4, .box 24 [.int .i64 t.1, .int .i64 t.2.1, .sl (.sl (.int .i64)) t.2.2.1, .sl (.sl (.int .i64)) t.2.2.2])] ?_
          refine AW.cond (b := true) rfl (fun _ => ?_) (fun hb15 => by cases hb15)
          refine zo ?_
          obtain ⟨v0_8, hv16, h⟩ := Option.bind_eq_some_iff.1 h
          refine zC [] [] (hc_lineallaw01_Awake hv16) [(53, .bool v0_8)] [] ?_
          refine zB [(6, .bool v0_8)] [] ?_
          refine zr ?_
          obtain rfl := Option.some.inj h
          exact zR [] [] []
        ·
          refine zT [(2, .sl (.int .i64) word), (3, .bp 3 0), (4, .bp 4 0), (47, .bool false)] [(3, .box 24 [.int .i64 s.1, .int .i64 s.2.1, .sl (.sl (.int .i64)) s.2.2.1, .sl (.sl (.int .i64)) s.2.2.2]), (4, .box 24 [.int .i64 t.1, .int .i64 t.2.1, .sl (.sl (.int .i64)) t.2.2.1, .sl (.sl (.int .i64)) t.2.2.2])] gt ?_
          refine zS 2 [(2, .sl (.int .i64) word), (3, .bp 3 0), (4, .bp 4 0), (47, .bool false), (48, .agg [.int .i64 s.1, .int .i64 s.2.1, .sl (.sl (.int .i64)) s.2.2.1, .sl (.sl (.int .i64)) s.2.2.2]), (49, .sl (.int .i64) word)] [(3, .box 24 [.int .i64 s.1, .int .i64 s.2.1, .sl (.sl (.int .i64)) s.2.2.1, .sl (.sl (.int .i64)) s.2.2.2]), (4, .box 24 [.int .i64 t.1, .int .i64 t.2.1, .sl (.sl (.int .i64)) t.2.2.1, .sl (.sl (.int .i64)) t.2.2.2])] ?_
          obtain ⟨v0_9, hv17, h⟩ := Option.bind_eq_some_iff.1 h
          refine zG [] [] (hc_linealref01_IsWord s word hv17) [(2, .sl (.int .i64) word), (3, .bp 3 0), (4, .bp 4 0), (47, .bool false), (50, .bool v0_9)] [(3, .box 24 [.int .i64 s.1, .int .i64 s.2.1, .sl (.sl (.int .i64)) s.2.2.1, .sl (.sl (.int .i64)) s.2.2.2]), (4, .box 24 [.int .i64 t.1, .int .i64 t.2.1, .sl (.sl (.int .i64)) t.2.2.1, .sl (.sl (.int .i64)) t.2.2.2])] ?_
          refine zB [(2, .sl (.int .i64) word), (3, .bp 3 0), (4, .bp 4 0), (52, .bool (!v0_9))] [(3, .box 24 [.int .i64 s.1, .int .i64 s.2.1, .sl (.sl (.int .i64)) s.2.2.1, .sl (.sl (.int .i64)) s.2.2.2]), (4, .box 24 [.int .i64 t.1, .int .i64 t.2.1, .sl (.sl (.int .i64)) t.2.2.1, .sl (.sl (.int .i64)) t.2.2.2])] ?_
          refine zQ h (fun hb18 h => ?_) (fun hb18 h => ?_)
          ·
            refine zo ?_
            obtain ⟨v0_10, hv19, h⟩ := Option.bind_eq_some_iff.1 h
            refine zC [] [] (hc_lineallaw01_Awake hv19) [(53, .bool v0_10)] [] ?_
            refine zB [(6, .bool v0_10)] [] ?_
            refine zr ?_
            obtain rfl := Option.some.inj h
            exact zR [] [] []
          ·
            refine zk ?_
            refine zo ?_
            refine zS 1 [(2, .sl (.int .i64) word), (3, .bp 3 0), (4, .bp 4 0), (55, .agg [.int .i64 s.1, .int .i64 s.2.1, .sl (.sl (.int .i64)) s.2.2.1, .sl (.sl (.int .i64)) s.2.2.2])] [(3, .box 24 [.int .i64 s.1, .int .i64 s.2.1, .sl (.sl (.int .i64)) s.2.2.1, .sl (.sl (.int .i64)) s.2.2.2]), (4, .box 24 [.int .i64 t.1, .int .i64 t.2.1, .sl (.sl (.int .i64)) t.2.2.1, .sl (.sl (.int .i64)) t.2.2.2])] ?_
            obtain ⟨v0_11, hv20, h⟩ := Option.bind_eq_some_iff.1 h
            refine zC [] [] (hc_spec_Classes s hv20) [(2, .sl (.int .i64) word), (3, .bp 3 0), (4, .bp 4 0), (56, .tup [.own 66000, .int .i64 v0_11.2])] [(3, .box 24 [.int .i64 s.1, .int .i64 s.2.1, .sl (.sl (.int .i64)) s.2.2.1, .sl (.sl (.int .i64)) s.2.2.2]), (4, .box 24 [.int .i64 t.1, .int .i64 t.2.1, .sl (.sl (.int .i64)) t.2.2.1, .sl (.sl (.int .i64)) t.2.2.2]), (66000, .arr 3 (.int .i64) v0_11.1)] ?_
            refine zB [(2, .sl (.int .i64) word), (3, .bp 3 0), (4, .bp 4 0), (7, .own 66000), (8, .int .i64 v0_11.2)] [(3, .box 24 [.int .i64 s.1, .int .i64 s.2.1, .sl (.sl (.int .i64)) s.2.2.1, .sl (.sl (.int .i64)) s.2.2.2]), (4, .box 24 [.int .i64 t.1, .int .i64 t.2.1, .sl (.sl (.int .i64)) t.2.2.1, .sl (.sl (.int .i64)) t.2.2.2]), (66000, .arr 3 (.int .i64) v0_11.1)] ?_
            refine zo ?_
            refine zS 1 [(2, .sl (.int .i64) word), (3, .bp 3 0), (4, .bp 4 0), (7, .own 66000), (8, .int .i64 v0_11.2), (60, .agg [.int .i64 s.1, .int .i64 s.2.1, .sl (.sl (.int .i64)) s.2.2.1, .sl (.sl (.int .i64)) s.2.2.2])] [(3, .box 24 [.int .i64 s.1, .int .i64 s.2.1, .sl (.sl (.int .i64)) s.2.2.1, .sl (.sl (.int .i64)) s.2.2.2]), (4, .box 24 [.int .i64 t.1, .int .i64 t.2.1, .sl (.sl (.int .i64)) t.2.2.1, .sl (.sl (.int .i64)) t.2.2.2]), (66000, .arr 3 (.int .i64) v0_11.1)] ?_
            obtain ⟨v0_12, hv21, h⟩ := Option.bind_eq_some_iff.1 h
            refine zC [] [] (hc_spec_Least s hv21) [(2, .sl (.int .i64) word), (3, .bp 3 0), (4, .bp 4 0), (7, .own 66000), (8, .int .i64 v0_11.2), (61, .tup [.agg [.int .i64 v0_12.1, .int .i64 v0_12.2.1, .own 71000, .own 71001], .int .i64 v0_12.2.2.2.2])] [(3, .box 24 [.int .i64 s.1, .int .i64 s.2.1, .sl (.sl (.int .i64)) s.2.2.1, .sl (.sl (.int .i64)) s.2.2.2]), (4, .box 24 [.int .i64 t.1, .int .i64 t.2.1, .sl (.sl (.int .i64)) t.2.2.1, .sl (.sl (.int .i64)) t.2.2.2]), (66000, .arr 3 (.int .i64) v0_11.1), (71000, .arr 25 (.sl (.int .i64)) v0_12.2.2.1), (71001, .arr 25 (.sl (.int .i64)) v0_12.2.2.2.1)] ?_
            refine zB [(2, .sl (.int .i64) word), (3, .bp 3 0), (4, .bp 4 0), (7, .own 66000), (8, .int .i64 v0_11.2), (9, .bp 9 0), (10, .int .i64 v0_12.2.2.2.2)] [(3, .box 24 [.int .i64 s.1, .int .i64 s.2.1, .sl (.sl (.int .i64)) s.2.2.1, .sl (.sl (.int .i64)) s.2.2.2]), (4, .box 24 [.int .i64 t.1, .int .i64 t.2.1, .sl (.sl (.int .i64)) t.2.2.1, .sl (.sl (.int .i64)) t.2.2.2]), (9, .box 24 [.int .i64 v0_12.1, .int .i64 v0_12.2.1, .own 71000, .own 71001]), (66000, .arr 3 (.int .i64) v0_11.1), (71000, .arr 25 (.sl (.int .i64)) v0_12.2.2.1), (71001, .arr 25 (.sl (.int .i64)) v0_12.2.2.2.1)] ?_
            refine zo ?_
            refine zS 1 [(2, .sl (.int .i64) word), (3, .bp 3 0), (4, .bp 4 0), (7, .own 66000), (8, .int .i64 v0_11.2), (9, .bp 9 0), (10, .int .i64 v0_12.2.2.2.2), (65, .agg [.int .i64 t.1, .int .i64 t.2.1, .sl (.sl (.int .i64)) t.2.2.1, .sl (.sl (.int .i64)) t.2.2.2])] [(3, .box 24 [.int .i64 s.1, .int .i64 s.2.1, .sl (.sl (.int .i64)) s.2.2.1, .sl (.sl (.int .i64)) s.2.2.2]), (4, .box 24 [.int .i64 t.1, .int .i64 t.2.1, .sl (.sl (.int .i64)) t.2.2.1, .sl (.sl (.int .i64)) t.2.2.2]), (9, .box 24 [.int .i64 v0_12.1, .int .i64 v0_12.2.1, .own 71000, .own 71001]), (66000, .arr 3 (.int .i64) v0_11.1), (71000, .arr 25 (.sl (.int .i64)) v0_12.2.2.1), (71001, .arr 25 (.sl (.int .i64)) v0_12.2.2.2.1)] ?_
            obtain ⟨v0_13, hv22, h⟩ := Option.bind_eq_some_iff.1 h
            refine zC [] [] (hc_spec_Least t hv22) [(2, .sl (.int .i64) word), (3, .bp 3 0), (4, .bp 4 0), (7, .own 66000), (8, .int .i64 v0_11.2), (9, .bp 9 0), (10, .int .i64 v0_12.2.2.2.2), (66, .tup [.agg [.int .i64 v0_13.1, .int .i64 v0_13.2.1, .own 76000, .own 76001], .int .i64 v0_13.2.2.2.2])] [(3, .box 24 [.int .i64 s.1, .int .i64 s.2.1, .sl (.sl (.int .i64)) s.2.2.1, .sl (.sl (.int .i64)) s.2.2.2]), (4, .box 24 [.int .i64 t.1, .int .i64 t.2.1, .sl (.sl (.int .i64)) t.2.2.1, .sl (.sl (.int .i64)) t.2.2.2]), (9, .box 24 [.int .i64 v0_12.1, .int .i64 v0_12.2.1, .own 71000, .own 71001]), (66000, .arr 3 (.int .i64) v0_11.1), (71000, .arr 25 (.sl (.int .i64)) v0_12.2.2.1), (71001, .arr 25 (.sl (.int .i64)) v0_12.2.2.2.1), (76000, .arr 25 (.sl (.int .i64)) v0_13.2.2.1), (76001, .arr 25 (.sl (.int .i64)) v0_13.2.2.2.1)] ?_
            refine zB [(2, .sl (.int .i64) word), (3, .bp 3 0), (4, .bp 4 0), (7, .own 66000), (8, .int .i64 v0_11.2), (9, .bp 9 0), (10, .int .i64 v0_12.2.2.2.2), (11, .bp 11 0), (12, .int .i64 v0_13.2.2.2.2)] [(3, .box 24 [.int .i64 s.1, .int .i64 s.2.1, .sl (.sl (.int .i64)) s.2.2.1, .sl (.sl (.int .i64)) s.2.2.2]), (4, .box 24 [.int .i64 t.1, .int .i64 t.2.1, .sl (.sl (.int .i64)) t.2.2.1, .sl (.sl (.int .i64)) t.2.2.2]), (9, .box 24 [.int .i64 v0_12.1, .int .i64 v0_12.2.1, .own 71000, .own 71001]), (11, .box 24 [.int .i64 v0_13.1, .int .i64 v0_13.2.1, .own 76000, .own 76001]), (66000, .arr 3 (.int .i64) v0_11.1), (71000, .arr 25 (.sl (.int .i64)) v0_12.2.2.1), (71001, .arr 25 (.sl (.int .i64)) v0_12.2.2.2.1), (76000, .arr 25 (.sl (.int .i64)) v0_13.2.2.1), (76001, .arr 25 (.sl (.int .i64)) v0_13.2.2.2.1)] ?_
            refine AW.seq ?_
            refine zo ?_
            refine zS 3 [(2, .sl (.int .i64) word), (3, .bp 3 0), (4, .bp 4 0), (7, .own 66000), (9, .bp 9 0), (10, .int .i64 v0_12.2.2.2.2), (11, .bp 11 0), (12, .int .i64 v0_13.2.2.2.2), (71, .bool (!(decide (v0_11.2 = 0))))] [(3, .box 24 [.int .i64 s.1, .int .i64 s.2.1, .sl (.sl (.int .i64)) s.2.2.1, .sl (.sl (.int .i64)) s.2.2.2]), (4, .box 24 [.int .i64 t.1, .int .i64 t.2.1, .sl (.sl (.int .i64)) t.2.2.1, .sl (.sl (.int .i64)) t.2.2.2]), (9, .box 24 [.int .i64 v0_12.1, .int .i64 v0_12.2.1, .own 71000, .own 71001]), (11, .box 24 [.int .i64 v0_13.1, .int .i64 v0_13.2.1, .own 76000, .own 76001]), (66000, .arr 3 (.int .i64) v0_11.1), (71000, .arr 25 (.sl (.int .i64)) v0_12.2.2.1), (71001, .arr 25 (.sl (.int .i64)) v0_12.2.2.2.1), (76000, .arr 25 (.sl (.int .i64)) v0_13.2.2.1), (76001, .arr 25 (.sl (.int .i64)) v0_13.2.2.2.1)] ?_
            rcases zI h with ⟨hb23, h⟩ | ⟨hb23, h⟩
            ·
              refine zT [(2, .sl (.int .i64) word), (3, .bp 3 0), (4, .bp 4 0), (7, .own 66000), (9, .bp 9 0), (10, .int .i64 v0_12.2.2.2.2), (11, .bp 11 0), (12, .int .i64 v0_13.2.2.2.2), (71, .bool true)] [(3, .box 24 [.int .i64 s.1, .int .i64 s.2.1, .sl (.sl (.int .i64)) s.2.2.1, .sl (.sl (.int .i64)) s.2.2.2]), (4, .box 24 [.int .i64 t.1, .int .i64 t.2.1, .sl (.sl (.int .i64)) t.2.2.1, .sl (.sl (.int .i64)) t.2.2.2]), (9, .box 24 [.int .i64 v0_12.1, .int .i64 v0_12.2.1, .own 71000, .own 71001]), (11, .box 24 [.int .i64 v0_13.1, .int .i64 v0_13.2.1, .own 76000, .own 76001]), (66000, .arr 3 (.int .i64) v0_11.1), (71000, .arr 25 (.sl (.int .i64)) v0_12.2.2.1), (71001, .arr 25 (.sl (.int .i64)) v0_12.2.2.2.1), (76000, .arr 25 (.sl (.int .i64)) v0_13.2.2.1), (76001, .arr 25 (.sl (.int .i64)) v0_13.2.2.2.1)] gt ?_
              refine zS 6 [(2, .sl (.int .i64) word), (3, .bp 3 0), (4, .bp 4 0), (7, .own 66000), (9, .bp 9 0), (11, .bp 11 0), (75, .bool true), (77, .cv (undef))] [(3, .box 24 [.int .i64 s.1, .int .i64 s.2.1, .sl (.sl (.int .i64)) s.2.2.1, .sl (.sl (.int .i64)) s.2.2.2]), (4, .box 24 [.int .i64 t.1, .int .i64 t.2.1, .sl (.sl (.int .i64)) t.2.2.1, .sl (.sl (.int .i64)) t.2.2.2]), (9, .box 24 [.int .i64 v0_12.1, .int .i64 v0_12.2.1, .own 71000, .own 71001]), (11, .box 24 [.int .i64 v0_13.1, .int .i64 v0_13.2.1, .own 76000, .own 76001]), (66000, .arr 3 (.int .i64) v0_11.1), (71000, .arr 25 (.sl (.int .i64)) v0_12.2.2.1), (71001, .arr 25 (.sl (.int .i64)) v0_12.2.2.2.1), (76000, .arr 25 (.sl (.int .i64)) v0_13.2.2.1), (76001, .arr 25 (.sl (.int .i64)) v0_13.2.2.2.1)] ?_
              refine zS 6 [(2, .sl (.int .i64) word), (3, .bp 3 0), (4, .bp 4 0), (7, .own 66000), (9, .bp 9 0), (11, .bp 11 0), (79, .bool true), (81, .cv (undef)), (83, .cv (undef))] [(3, .box 24 [.int .i64 s.1, .int .i64 s.2.1, .sl (.sl (.int .i64)) s.2.2.1, .sl (.sl (.int .i64)) s.2.2.2]), (4, .box 24 [.int .i64 t.1, .int .i64 t.2.1, .sl (.sl (.int .i64)) t.2.2.1, .sl (.sl (.int .i64)) t.2.2.2]), (9, .box 24 [.int .i64 v0_12.1, .int .i64 v0_12.2.1, .own 71000, .own 71001]), (11, .box 24 [.int .i64 v0_13.1, .int .i64 v0_13.2.1, .own 76000, .own 76001]), (66000, .arr 3 (.int .i64) v0_11.1), (71000, .arr 25 (.sl (.int .i64)) v0_12.2.2.1), (71001, .arr 25 (.sl (.int .i64)) v0_12.2.2.2.1), (76000, .arr 25 (.sl (.int .i64)) v0_13.2.2.1), (76001, .arr 25 (.sl (.int .i64)) v0_13.2.2.2.1)] ?_
              refine zS 6 [(2, .sl (.int .i64) word), (3, .bp 3 0), (4, .bp 4 0), (7, .own 66000), (9, .bp 9 0), (11, .bp 11 0), (86, .bool true), (89, .cv (undef))] [(3, .box 24 [.int .i64 s.1, .int .i64 s.2.1, .sl (.sl (.int .i64)) s.2.2.1, .sl (.sl (.int .i64)) s.2.2.2]), (4, .box 24 [.int .i64 t.1, .int .i64 t.2.1, .sl (.sl (.int .i64)) t.2.2.1, .sl (.sl (.int .i64)) t.2.2.2]), (9, .box 24 [.int .i64 v0_12.1, .int .i64 v0_12.2.1, .own 71000, .own 71001]), (11, .box 24 [.int .i64 v0_13.1, .int .i64 v0_13.2.1, .own 76000, .own 76001]), (66000, .arr 3 (.int .i64) v0_11.1), (71000, .arr 25 (.sl (.int .i64)) v0_12.2.2.1), (71001, .arr 25 (.sl (.int .i64)) v0_12.2.2.2.1), (76000, .arr 25 (.sl (.int .i64)) v0_13.2.2.1), (76001, .arr 25 (.sl (.int .i64)) v0_13.2.2.2.1)] ?_
              refine zB [(2, .sl (.int .i64) word), (3, .bp 3 0), (4, .bp 4 0), (7, .own 66000), (9, .bp 9 0), (11, .bp 11 0), (90, .bool true)] [(3, .box 24 [.int .i64 s.1, .int .i64 s.2.1, .sl (.sl (.int .i64)) s.2.2.1, .sl (.sl (.int .i64)) s.2.2.2]), (4, .box 24 [.int .i64 t.1, .int .i64 t.2.1, .sl (.sl (.int .i64)) t.2.2.1, .sl (.sl (.int .i64)) t.2.2.2]), (9, .box 24 [.int .i64 v0_12.1, .int .i64 v0_12.2.1, .own 71000, .own 71001]), (11, .box 24 [.int .i64 v0_13.1, .int .i64 v0_13.2.1, .own 76000, .own 76001]), (66000, .arr 3 (.int .i64) v0_11.1), (71000, .arr 25 (.sl (.int .i64)) v0_12.2.2.1), (71001, .arr 25 (.sl (.int .i64)) v0_12.2.2.2.1), (76000, .arr 25 (.sl (.int .i64)) v0_13.2.2.1), (76001, .arr 25 (.sl (.int .i64)) v0_13.2.2.2.1)] ?_
              refine AW.cond (b := true) rfl (fun _ => ?_) (fun hb24 => by cases hb24)
              refine zo ?_
              refine zB [(6, .bool false)] [] ?_
              refine zr ?_
              obtain rfl := Option.some.inj h
              exact zR [] [] []
            ·
              refine zT [(2, .sl (.int .i64) word), (3, .bp 3 0), (4, .bp 4 0), (7, .own 66000), (9, .bp 9 0), (10, .int .i64 v0_12.2.2.2.2), (11, .bp 11 0), (12, .int .i64 v0_13.2.2.2.2), (71, .bool false)] [(3, .box 24 [.int .i64 s.1, .int .i64 s.2.1, .sl (.sl (.int .i64)) s.2.2.1, .sl (.sl (.int .i64)) s.2.2.2]), (4, .box 24 [.int .i64 t.1, .int .i64 t.2.1, .sl (.sl (.int .i64)) t.2.2.1, .sl (.sl (.int .i64)) t.2.2.2]), (9, .box 24 [.int .i64 v0_12.1, .int .i64 v0_12.2.1, .own 71000, .own 71001]), (11, .box 24 [.int .i64 v0_13.1, .int .i64 v0_13.2.1, .own 76000, .own 76001]), (66000, .arr 3 (.int .i64) v0_11.1), (71000, .arr 25 (.sl (.int .i64)) v0_12.2.2.1), (71001, .arr 25 (.sl (.int .i64)) v0_12.2.2.2.1), (76000, .arr 25 (.sl (.int .i64)) v0_13.2.2.1), (76001, .arr 25 (.sl (.int .i64)) v0_13.2.2.2.1)] gt ?_
              refine zS 4 [(2, .sl (.int .i64) word), (3, .bp 3 0), (4, .bp 4 0), (7, .own 66000), (9, .bp 9 0), (11, .bp 11 0), (12, .int .i64 v0_13.2.2.2.2), (75, .bool (!(decide (v0_12.2.2.2.2 = 0))))] [(3, .box 24 [.int .i64 s.1, .int .i64 s.2.1, .sl (.sl (.int .i64)) s.2.2.1, .sl (.sl (.int .i64)) s.2.2.2]), (4, .box 24 [.int .i64 t.1, .int .i64 t.2.1, .sl (.sl (.int .i64)) t.2.2.1, .sl (.sl (.int .i64)) t.2.2.2]), (9, .box 24 [.int .i64 v0_12.1, .int .i64 v0_12.2.1, .own 71000, .own 71001]), (11, .box 24 [.int .i64 v0_13.1, .int .i64 v0_13.2.1, .own 76000, .own 76001]), (66000, .arr 3 (.int .i64) v0_11.1), (71000, .arr 25 (.sl (.int .i64)) v0_12.2.2.1), (71001, .arr 25 (.sl (.int .i64)) v0_12.2.2.2.1), (76000, .arr 25 (.sl (.int .i64)) v0_13.2.2.1), (76001, .arr 25 (.sl (.int .i64)) v0_13.2.2.2.1)] ?_
              rcases zI h with ⟨hb25, h⟩ | ⟨hb25, h⟩
              ·
                refine zT [(2, .sl (.int .i64) word), (3, .bp 3 0), (4, .bp 4 0), (7, .own 66000), (9, .bp 9 0), (11, .bp 11 0), (12, .int .i64 v0_13.2.2.2.2), (75, .bool true)] [(3, .box 24 [.int .i64 s.1, .int .i64 s.2.1, .sl (.sl (.int .i64)) s.2.2.1, .sl (.sl (.int .i64)) s.2.2.2]), (4, .box 24 [.int .i64 t.1, .int .i64 t.2.1, .sl (.sl (.int .i64)) t.2.2.1, .sl (.sl (.int .i64)) t.2.2.2]), (9, .box 24 [.int .i64 v0_12.1, .int .i64 v0_12.2.1, .own 71000, .own 71001]), (11, .box 24 [.int .i64 v0_13.1, .int .i64 v0_13.2.1, .own 76000, .own 76001]), (66000, .arr 3 (.int .i64) v0_11.1), (71000, .arr 25 (.sl (.int .i64)) v0_12.2.2.1), (71001, .arr 25 (.sl (.int .i64)) v0_12.2.2.2.1), (76000, .arr 25 (.sl (.int .i64)) v0_13.2.2.1), (76001, .arr 25 (.sl (.int .i64)) v0_13.2.2.2.1)] gt ?_
                refine zS 6 [(2, .sl (.int .i64) word), (3, .bp 3 0), (4, .bp 4 0), (7, .own 66000), (9, .bp 9 0), (11, .bp 11 0), (79, .bool true), (81, .cv (undef))] [(3, .box 24 [.int .i64 s.1, .int .i64 s.2.1, .sl (.sl (.int .i64)) s.2.2.1, .sl (.sl (.int .i64)) s.2.2.2]), (4, .box 24 [.int .i64 t.1, .int .i64 t.2.1, .sl (.sl (.int .i64)) t.2.2.1, .sl (.sl (.int .i64)) t.2.2.2]), (9, .box 24 [.int .i64 v0_12.1, .int .i64 v0_12.2.1, .own 71000, .own 71001]), (11, .box 24 [.int .i64 v0_13.1, .int .i64 v0_13.2.1, .own 76000, .own 76001]), (66000, .arr 3 (.int .i64) v0_11.1), (71000, .arr 25 (.sl (.int .i64)) v0_12.2.2.1), (71001, .arr 25 (.sl (.int .i64)) v0_12.2.2.2.1), (76000, .arr 25 (.sl (.int .i64)) v0_13.2.2.1), (76001, .arr 25 (.sl (.int .i64)) v0_13.2.2.2.1)] ?_
                refine zS 6 [(2, .sl (.int .i64) word), (3, .bp 3 0), (4, .bp 4 0), (7, .own 66000), (9, .bp 9 0), (11, .bp 11 0), (86, .bool true), (87, .cv (undef))] [(3, .box 24 [.int .i64 s.1, .int .i64 s.2.1, .sl (.sl (.int .i64)) s.2.2.1, .sl (.sl (.int .i64)) s.2.2.2]), (4, .box 24 [.int .i64 t.1, .int .i64 t.2.1, .sl (.sl (.int .i64)) t.2.2.1, .sl (.sl (.int .i64)) t.2.2.2]), (9, .box 24 [.int .i64 v0_12.1, .int .i64 v0_12.2.1, .own 71000, .own 71001]), (11, .box 24 [.int .i64 v0_13.1, .int .i64 v0_13.2.1, .own 76000, .own 76001]), (66000, .arr 3 (.int .i64) v0_11.1), (71000, .arr 25 (.sl (.int .i64)) v0_12.2.2.1), (71001, .arr 25 (.sl (.int .i64)) v0_12.2.2.2.1), (76000, .arr 25 (.sl (.int .i64)) v0_13.2.2.1), (76001, .arr 25 (.sl (.int .i64)) v0_13.2.2.2.1)] ?_
                refine zB [(2, .sl (.int .i64) word), (3, .bp 3 0), (4, .bp 4 0), (7, .own 66000), (9, .bp 9 0), (11, .bp 11 0), (90, .bool true)] [(3, .box 24 [.int .i64 s.1, .int .i64 s.2.1, .sl (.sl (.int .i64)) s.2.2.1, .sl (.sl (.int .i64)) s.2.2.2]), (4, .box 24 [.int .i64 t.1, .int .i64 t.2.1, .sl (.sl (.int .i64)) t.2.2.1, .sl (.sl (.int .i64)) t.2.2.2]), (9, .box 24 [.int .i64 v0_12.1, .int .i64 v0_12.2.1, .own 71000, .own 71001]), (11, .box 24 [.int .i64 v0_13.1, .int .i64 v0_13.2.1, .own 76000, .own 76001]), (66000, .arr 3 (.int .i64) v0_11.1), (71000, .arr 25 (.sl (.int .i64)) v0_12.2.2.1), (71001, .arr 25 (.sl (.int .i64)) v0_12.2.2.2.1), (76000, .arr 25 (.sl (.int .i64)) v0_13.2.2.1), (76001, .arr 25 (.sl (.int .i64)) v0_13.2.2.2.1)] ?_
                refine AW.cond (b := true) rfl (fun _ => ?_) (fun hb26 => by cases hb26)
                refine zo ?_
                refine zB [(6, .bool false)] [] ?_
                refine zr ?_
                obtain rfl := Option.some.inj h
                exact zR [] [] []
              ·
                refine zT [(2, .sl (.int .i64) word), (3, .bp 3 0), (4, .bp 4 0), (7, .own 66000), (9, .bp 9 0), (11, .bp 11 0), (12, .int .i64 v0_13.2.2.2.2), (75, .bool false)] [(3, .box 24 [.int .i64 s.1, .int .i64 s.2.1, .sl (.sl (.int .i64)) s.2.2.1, .sl (.sl (.int .i64)) s.2.2.2]), (4, .box 24 [.int .i64 t.1, .int .i64 t.2.1, .sl (.sl (.int .i64)) t.2.2.1, .sl (.sl (.int .i64)) t.2.2.2]), (9, .box 24 [.int .i64 v0_12.1, .int .i64 v0_12.2.1, .own 71000, .own 71001]), (11, .box 24 [.int .i64 v0_13.1, .int .i64 v0_13.2.1, .own 76000, .own 76001]), (66000, .arr 3 (.int .i64) v0_11.1), (71000, .arr 25 (.sl (.int .i64)) v0_12.2.2.1), (71001, .arr 25 (.sl (.int .i64)) v0_12.2.2.2.1), (76000, .arr 25 (.sl (.int .i64)) v0_13.2.2.1), (76001, .arr 25 (.sl (.int .i64)) v0_13.2.2.2.1)] gt ?_
                refine zS 4 [(2, .sl (.int .i64) word), (3, .bp 3 0), (4, .bp 4 0), (7, .own 66000), (9, .bp 9 0), (11, .bp 11 0), (79, .bool (!(decide (v0_13.2.2.2.2 = 0))))] [(3, .box 24 [.int .i64 s.1, .int .i64 s.2.1, .sl (.sl (.int .i64)) s.2.2.1, .sl (.sl (.int .i64)) s.2.2.2]), (4, .box 24 [.int .i64 t.1, .int .i64 t.2.1, .sl (.sl (.int .i64)) t.2.2.1, .sl (.sl (.int .i64)) t.2.2.2]), (9, .box 24 [.int .i64 v0_12.1, .int .i64 v0_12.2.1, .own 71000, .own 71001]), (11, .box 24 [.int .i64 v0_13.1, .int .i64 v0_13.2.1, .own 76000, .own 76001]), (66000, .arr 3 (.int .i64) v0_11.1), (71000, .arr 25 (.sl (.int .i64)) v0_12.2.2.1), (71001, .arr 25 (.sl (.int .i64)) v0_12.2.2.2.1), (76000, .arr 25 (.sl (.int .i64)) v0_13.2.2.1), (76001, .arr 25 (.sl (.int .i64)) v0_13.2.2.2.1)] ?_
                rcases zI h with ⟨hb27, h⟩ | ⟨hb27, h⟩
                ·
                  refine zT [(2, .sl (.int .i64) word), (3, .bp 3 0), (4, .bp 4 0), (7, .own 66000), (9, .bp 9 0), (11, .bp 11 0), (79, .bool true)] [(3, .box 24 [.int .i64 s.1, .int .i64 s.2.1, .sl (.sl (.int .i64)) s.2.2.1, .sl (.sl (.int .i64)) s.2.2.2]), (4, .box 24 [.int .i64 t.1, .int .i64 t.2.1, .sl (.sl (.int .i64)) t.2.2.1, .sl (.sl (.int .i64)) t.2.2.2]), (9, .box 24 [.int .i64 v0_12.1, .int .i64 v0_12.2.1, .own 71000, .own 71001]), (11, .box 24 [.int .i64 v0_13.1, .int .i64 v0_13.2.1, .own 76000, .own 76001]), (66000, .arr 3 (.int .i64) v0_11.1), (71000, .arr 25 (.sl (.int .i64)) v0_12.2.2.1), (71001, .arr 25 (.sl (.int .i64)) v0_12.2.2.2.1), (76000, .arr 25 (.sl (.int .i64)) v0_13.2.2.1), (76001, .arr 25 (.sl (.int .i64)) v0_13.2.2.2.1)] gt ?_
                  refine zS 4 [(2, .sl (.int .i64) word), (3, .bp 3 0), (4, .bp 4 0), (7, .own 66000), (9, .bp 9 0), (11, .bp 11 0), (79, .bool true), (81, .cv (undef)), (83, .cv (undef))] [(3, .box 24 [.int .i64 s.1, .int .i64 s.2.1, .sl (.sl (.int .i64)) s.2.2.1, .sl (.sl (.int .i64)) s.2.2.2]), (4, .box 24 [.int .i64 t.1, .int .i64 t.2.1, .sl (.sl (.int .i64)) t.2.2.1, .sl (.sl (.int .i64)) t.2.2.2]), (9, .box 24 [.int .i64 v0_12.1, .int .i64 v0_12.2.1, .own 71000, .own 71001]), (11, .box 24 [.int .i64 v0_13.1, .int .i64 v0_13.2.1, .own 76000, .own 76001]), (66000, .arr 3 (.int .i64) v0_11.1), (71000, .arr 25 (.sl (.int .i64)) v0_12.2.2.1), (71001, .arr 25 (.sl (.int .i64)) v0_12.2.2.2.1), (76000, .arr 25 (.sl (.int .i64)) v0_13.2.2.1), (76001, .arr 25 (.sl (.int .i64)) v0_13.2.2.2.1)] ?_
                  refine zS 6 [(2, .sl (.int .i64) word), (3, .bp 3 0), (4, .bp 4 0), (7, .own 66000), (9, .bp 9 0), (11, .bp 11 0), (86, .bool true), (89, .cv (undef))] [(3, .box 24 [.int .i64 s.1, .int .i64 s.2.1, .sl (.sl (.int .i64)) s.2.2.1, .sl (.sl (.int .i64)) s.2.2.2]), (4, .box 24 [.int .i64 t.1, .int .i64 t.2.1, .sl (.sl (.int .i64)) t.2.2.1, .sl (.sl (.int .i64)) t.2.2.2]), (9, .box 24 [.int .i64 v0_12.1, .int .i64 v0_12.2.1, .own 71000, .own 71001]), (11, .box 24 [.int .i64 v0_13.1, .int .i64 v0_13.2.1, .own 76000, .own 76001]), (66000, .arr 3 (.int .i64) v0_11.1), (71000, .arr 25 (.sl (.int .i64)) v0_12.2.2.1), (71001, .arr 25 (.sl (.int .i64)) v0_12.2.2.2.1), (76000, .arr 25 (.sl (.int .i64)) v0_13.2.2.1), (76001, .arr 25 (.sl (.int .i64)) v0_13.2.2.2.1)] ?_
                  refine zB [(2, .sl (.int .i64) word), (3, .bp 3 0), (4, .bp 4 0), (7, .own 66000), (9, .bp 9 0), (11, .bp 11 0), (90, .bool true)] [(3, .box 24 [.int .i64 s.1, .int .i64 s.2.1, .sl (.sl (.int .i64)) s.2.2.1, .sl (.sl (.int .i64)) s.2.2.2]), (4, .box 24 [.int .i64 t.1, .int .i64 t.2.1, .sl (.sl (.int .i64)) t.2.2.1, .sl (.sl (.int .i64)) t.2.2.2]), (9, .box 24 [.int .i64 v0_12.1, .int .i64 v0_12.2.1, .own 71000, .own 71001]), (11, .box 24 [.int .i64 v0_13.1, .int .i64 v0_13.2.1, .own 76000, .own 76001]), (66000, .arr 3 (.int .i64) v0_11.1), (71000, .arr 25 (.sl (.int .i64)) v0_12.2.2.1), (71001, .arr 25 (.sl (.int .i64)) v0_12.2.2.2.1), (76000, .arr 25 (.sl (.int .i64)) v0_13.2.2.1), (76001, .arr 25 (.sl (.int .i64)) v0_13.2.2.2.1)] ?_
                  refine AW.cond (b := true) rfl (fun _ => ?_) (fun hb28 => by cases hb28)
                  refine zo ?_
                  refine zB [(6, .bool false)] [] ?_
                  refine zr ?_
                  obtain rfl := Option.some.inj h
                  exact zR [] [] []
                ·
                  refine zT [(2, .sl (.int .i64) word), (3, .bp 3 0), (4, .bp 4 0), (7, .own 66000), (9, .bp 9 0), (11, .bp 11 0), (79, .bool false)] [(3, .box 24 [.int .i64 s.1, .int .i64 s.2.1, .sl (.sl (.int .i64)) s.2.2.1, .sl (.sl (.int .i64)) s.2.2.2]), (4, .box 24 [.int .i64 t.1, .int .i64 t.2.1, .sl (.sl (.int .i64)) t.2.2.1, .sl (.sl (.int .i64)) t.2.2.2]), (9, .box 24 [.int .i64 v0_12.1, .int .i64 v0_12.2.1, .own 71000, .own 71001]), (11, .box 24 [.int .i64 v0_13.1, .int .i64 v0_13.2.1, .own 76000, .own 76001]), (66000, .arr 3 (.int .i64) v0_11.1), (71000, .arr 25 (.sl (.int .i64)) v0_12.2.2.1), (71001, .arr 25 (.sl (.int .i64)) v0_12.2.2.2.1), (76000, .arr 25 (.sl (.int .i64)) v0_13.2.2.1), (76001, .arr 25 (.sl (.int .i64)) v0_13.2.2.2.1)] gt ?_
                  refine zS 7 [(2, .sl (.int .i64) word), (3, .bp 3 0), (4, .bp 4 0), (7, .own 66000), (9, .bp 9 0), (11, .bp 11 0), (86, .bool (!(decide ((v0_11.1.length : Int) = s.1))))] [(3, .box 24 [.int .i64 s.1, .int .i64 s.2.1, .sl (.sl (.int .i64)) s.2.2.1, .sl (.sl (.int .i64)) s.2.2.2]), (4, .box 24 [.int .i64 t.1, .int .i64 t.2.1, .sl (.sl (.int .i64)) t.2.2.1, .sl (.sl (.int .i64)) t.2.2.2]), (9, .box 24 [.int .i64 v0_12.1, .int .i64 v0_12.2.1, .own 71000, .own 71001]), (11, .box 24 [.int .i64 v0_13.1, .int .i64 v0_13.2.1, .own 76000, .own 76001]), (66000, .arr 3 (.int .i64) v0_11.1), (71000, .arr 25 (.sl (.int .i64)) v0_12.2.2.1), (71001, .arr 25 (.sl (.int .i64)) v0_12.2.2.2.1), (76000, .arr 25 (.sl (.int .i64)) v0_13.2.2.1), (76001, .arr 25 (.sl (.int .i64)) v0_13.2.2.2.1)] ?_
                  rcases zI h with ⟨hb29, h⟩ | ⟨hb29, h⟩
                  ·
                    refine zT [(2, .sl (.int .i64) word), (3, .bp 3 0), (4, .bp 4 0), (7, .own 66000), (9, .bp 9 0), (11, .bp 11 0), (86, .bool true)] [(3, .box 24 [.int .i64 s.1, .int .i64 s.2.1, .sl (.sl (.int .i64)) s.2.2.1, .sl (.sl (.int .i64)) s.2.2.2]), (4, .box 24 [.int .i64 t.1, .int .i64 t.2.1, .sl (.sl (.int .i64)) t.2.2.1, .sl (.sl (.int .i64)) t.2.2.2]), (9, .box 24 [.int .i64 v0_12.1, .int .i64 v0_12.2.1, .own 71000, .own 71001]), (11, .box 24 [.int .i64 v0_13.1, .int .i64 v0_13.2.1, .own 76000, .own 76001]), (66000, .arr 3 (.int .i64) v0_11.1), (71000, .arr 25 (.sl (.int .i64)) v0_12.2.2.1), (71001, .arr 25 (.sl (.int .i64)) v0_12.2.2.2.1), (76000, .arr 25 (.sl (.int .i64)) v0_13.2.2.1), (76001, .arr 25 (.sl (.int .i64)) v0_13.2.2.2.1)] gt ?_
                    refine zB [(2, .sl (.int .i64) word), (3, .bp 3 0), (4, .bp 4 0), (7, .own 66000), (9, .bp 9 0), (11, .bp 11 0), (90, .bool true)] [(3, .box 24 [.int .i64 s.1, .int .i64 s.2.1, .sl (.sl (.int .i64)) s.2.2.1, .sl (.sl (.int .i64)) s.2.2.2]), (4, .box 24 [.int .i64 t.1, .int .i64 t.2.1, .sl (.sl (.int .i64)) t.2.2.1, .sl (.sl (.int .i64)) t.2.2.2]), (9, .box 24 [.int .i64 v0_12.1, .int .i64 v0_12.2.1, .own 71000, .own 71001]), (11, .box 24 [.int .i64 v0_13.1, .int .i64 v0_13.2.1, .own 76000, .own 76001]), (66000, .arr 3 (.int .i64) v0_11.1), (71000, .arr 25 (.sl (.int .i64)) v0_12.2.2.1), (71001, .arr 25 (.sl (.int .i64)) v0_12.2.2.2.1), (76000, .arr 25 (.sl (.int .i64)) v0_13.2.2.1), (76001, .arr 25 (.sl (.int .i64)) v0_13.2.2.2.1)] ?_
                    refine AW.cond (b := true) rfl (fun _ => ?_) (fun hb30 => by cases hb30)
                    refine zo ?_
                    refine zB [(6, .bool false)] [] ?_
                    refine zr ?_
                    obtain rfl := Option.some.inj h
                    exact zR [] [] []
                  ·
                    refine zT [(2, .sl (.int .i64) word), (3, .bp 3 0), (4, .bp 4 0), (7, .own 66000), (9, .bp 9 0), (11, .bp 11 0), (86, .bool false)] [(3, .box 24 [.int .i64 s.1, .int .i64 s.2.1, .sl (.sl (.int .i64)) s.2.2.1, .sl (.sl (.int .i64)) s.2.2.2]), (4, .box 24 [.int .i64 t.1, .int .i64 t.2.1, .sl (.sl (.int .i64)) t.2.2.1, .sl (.sl (.int .i64)) t.2.2.2]), (9, .box 24 [.int .i64 v0_12.1, .int .i64 v0_12.2.1, .own 71000, .own 71001]), (11, .box 24 [.int .i64 v0_13.1, .int .i64 v0_13.2.1, .own 76000, .own 76001]), (66000, .arr 3 (.int .i64) v0_11.1), (71000, .arr 25 (.sl (.int .i64)) v0_12.2.2.1), (71001, .arr 25 (.sl (.int .i64)) v0_12.2.2.2.1), (76000, .arr 25 (.sl (.int .i64)) v0_13.2.2.1), (76001, .arr 25 (.sl (.int .i64)) v0_13.2.2.2.1)] gt ?_
                    refine zS 1 [(2, .sl (.int .i64) word), (3, .bp 3 0), (4, .bp 4 0), (7, .own 66000), (9, .bp 9 0), (11, .bp 11 0), (86, .bool false), (87, .agg [.int .i64 v0_12.1, .int .i64 v0_12.2.1, .own 71000, .own 71001])] [(3, .box 24 [.int .i64 s.1, .int .i64 s.2.1, .sl (.sl (.int .i64)) s.2.2.1, .sl (.sl (.int .i64)) s.2.2.2]), (4, .box 24 [.int .i64 t.1, .int .i64 t.2.1, .sl (.sl (.int .i64)) t.2.2.1, .sl (.sl (.int .i64)) t.2.2.2]), (9, .box 24 [.int .i64 v0_12.1, .int .i64 v0_12.2.1, .own 71000, .own 71001]), (11, .box 24 [.int .i64 v0_13.1, .int .i64 v0_13.2.1, .own 76000, .own 76001]), (66000, .arr 3 (.int .i64) v0_11.1), (71000, .arr 25 (.sl (.int .i64)) v0_12.2.2.1), (71001, .arr 25 (.sl (.int .i64)) v0_12.2.2.2.1), (76000, .arr 25 (.sl (.int .i64)) v0_13.2.2.1), (76001, .arr 25 (.sl (.int .i64)) v0_13.2.2.2.1)] ?_
                    obtain ⟨v0_14, hv31, h⟩ := Option.bind_eq_some_iff.1 h
                    refine zG [71000, 71001] [] (hc_linealref01_Valid (v0_12.1, v0_12.2.1, v0_12.2.2.1, v0_12.2.2.2.1) hv31) [(2, .sl (.int .i64) word), (3, .bp 3 0), (4, .bp 4 0), (7, .own 66000), (9, .bp 9 0), (11, .bp 11 0), (86, .bool false), (88, .bool v0_14)] [(3, .box 24 [.int .i64 s.1, .int .i64 s.2.1, .sl (.sl (.int .i64)) s.2.2.1, .sl (.sl (.int .i64)) s.2.2.2]), (4, .box 24 [.int .i64 t.1, .int .i64 t.2.1, .sl (.sl (.int .i64)) t.2.2.1, .sl (.sl (.int .i64)) t.2.2.2]), (9, .box 24 [.int .i64 v0_12.1, .int .i64 v0_12.2.1, .own 71000, .own 71001]), (11, .box 24 [.int .i64 v0_13.1, .int .i64 v0_13.2.1, .own 76000, .own 76001]), (66000, .arr 3 (.int .i64) v0_11.1), (71000, .arr 25 (.sl (.int .i64)) v0_12.2.2.1), (71001, .arr 25 (.sl (.int .i64)) v0_12.2.2.2.1), (76000, .arr 25 (.sl (.int .i64)) v0_13.2.2.1), (76001, .arr 25 (.sl (.int .i64)) v0_13.2.2.2.1)] ?_
                    refine zB [(2, .sl (.int .i64) word), (3, .bp 3 0), (4, .bp 4 0), (7, .own 66000), (9, .bp 9 0), (11, .bp 11 0), (90, .bool (!v0_14))] [(3, .box 24 [.int .i64 s.1, .int .i64 s.2.1, .sl (.sl (.int .i64)) s.2.2.1, .sl (.sl (.int .i64)) s.2.2.2]), (4, .box 24 [.int .i64 t.1, .int .i64 t.2.1, .sl (.sl (.int .i64)) t.2.2.1, .sl (.sl (.int .i64)) t.2.2.2]), (9, .box 24 [.int .i64 v0_12.1, .int .i64 v0_12.2.1, .own 71000, .own 71001]), (11, .box 24 [.int .i64 v0_13.1, .int .i64 v0_13.2.1, .own 76000, .own 76001]), (66000, .arr 3 (.int .i64) v0_11.1), (71000, .arr 25 (.sl (.int .i64)) v0_12.2.2.1), (71001, .arr 25 (.sl (.int .i64)) v0_12.2.2.2.1), (76000, .arr 25 (.sl (.int .i64)) v0_13.2.2.1), (76001, .arr 25 (.sl (.int .i64)) v0_13.2.2.2.1)] ?_
                    refine zQ h (fun hb32 h => ?_) (fun hb32 h => ?_)
                    ·
                      refine zo ?_
                      refine zB [(6, .bool false)] [] ?_
                      refine zr ?_
                      obtain rfl := Option.some.inj h
                      exact zR [] [] []
                    ·
                      refine zk ?_
                      refine AW.have1 (fun _ : Unit => linealtop_TopSpec_k1 s t word v0_12 v0_13 = some r) (fun _ => ⟨fr [(2, .sl (.int .i64) word), (3, .bp 3 0), (4, .bp 4 0), (9, .bp 9 0), (11, .bp 11 0)], hpGet [(3, .box 24 [.int .i64 s.1, .int .i64 s.2.1, .sl (.sl (.int .i64)) s.2.2.1, .sl (.sl (.int .i64)) s.2.2.2]), (4, .box 24 [.int .i64 t.1, .int .i64 t.2.1, .sl (.sl (.int .i64)) t.2.2.1, .sl (.sl (.int .i64)) t.2.2.2]), (9, .box 24 [.int .i64 v0_12.1, .int .i64 v0_12.2.1, .own 71000, .own 71001]), (11, .box 24 [.int .i64 v0_13.1, .int .i64 v0_13.2.1, .own 76000, .own 76001]), (71000, .arr 25 (.sl (.int .i64)) v0_12.2.2.1), (71001, .arr 25 (.sl (.int .i64)) v0_12.2.2.2.1), (76000, .arr 25 (.sl (.int .i64)) v0_13.2.2.1), (76001, .arr 25 (.sl (.int .i64)) v0_13.2.2.2.1)], gt⟩) (fun _ h => ?_) (fun hk_linealtop_TopSpec_k1 => ?_)
                      · unfold linealtop_TopSpec_k1 at h
                        refine zo ?_
                        refine zS 2 [(2, .sl (.int .i64) word), (3, .bp 3 0), (4, .bp 4 0), (9, .bp 9 0), (11, .bp 11 0), (155, .agg [.int .i64 s.1, .int .i64 s.2.1, .sl (.sl (.int .i64)) s.2.2.1, .sl (.sl (.int .i64)) s.2.2.2]), (156, .sl (.int .i64) word)] [(3, .box 24 [.int .i64 s.1, .int .i64 s.2.1, .sl (.sl (.int .i64)) s.2.2.1, .sl (.sl (.int .i64)) s.2.2.2]), (4, .box 24 [.int .i64 t.1, .int .i64 t.2.1, .sl (.sl (.int .i64)) t.2.2.1, .sl (.sl (.int .i64)) t.2.2.2]), (9, .box 24 [.int .i64 v0_12.1, .int .i64 v0_12.2.1, .own 71000, .own 71001]), (11, .box 24 [.int .i64 v0_13.1, .int .i64 v0_13.2.1, .own 76000, .own 76001]), (71000, .arr 25 (.sl (.int .i64)) v0_12.2.2.1), (71001, .arr 25 (.sl (.int .i64)) v0_12.2.2.2.1), (76000, .arr 25 (.sl (.int .i64)) v0_13.2.2.1), (76001, .arr 25 (.sl (.int .i64)) v0_13.2.2.2.1)] ?_
                        obtain ⟨v0_18, hv33, h⟩ := Option.bind_eq_some_iff.1 h
                        refine zC [] [] (hc_spec_Run s 0 word hv33) [(2, .sl (.int .i64) word), (3, .bp 3 0), (4, .bp 4 0), (9, .bp 9 0), (11, .bp 11 0), (157, .tup [.own 167000, .int .i64 v0_18.2.1, .int .i64 v0_18.2.2])] [(3, .box 24 [.int .i64 s.1, .int .i64 s.2.1, .sl (.sl (.int .i64)) s.2.2.1, .sl (.sl (.int .i64)) s.2.2.2]), (4, .box 24 [.int .i64 t.1, .int .i64 t.2.1, .sl (.sl (.int .i64)) t.2.2.1, .sl (.sl (.int .i64)) t.2.2.2]), (9, .box 24 [.int .i64 v0_12.1, .int .i64 v0_12.2.1, .own 71000, .own 71001]), (11, .box 24 [.int .i64 v0_13.1, .int .i64 v0_13.2.1, .own 76000, .own 76001]), (71000, .arr 25 (.sl (.int .i64)) v0_12.2.2.1), (71001, .arr 25 (.sl (.int .i64)) v0_12.2.2.2.1), (76000, .arr 25 (.sl (.int .i64)) v0_13.2.2.1), (76001, .arr 25 (.sl (.int .i64)) v0_13.2.2.2.1), (167000, .arr 3 (.int .i64) v0_18.1)] ?_
                        refine zB [(2, .sl (.int .i64) word), (3, .bp 3 0), (4, .bp 4 0), (8, .int .i64 v0_18.2.2), (9, .bp 9 0), (11, .bp 11 0), (21, .own 167000)] [(3, .box 24 [.int .i64 s.1, .int .i64 s.2.1, .sl (.sl (.int .i64)) s.2.2.1, .sl (.sl (.int .i64)) s.2.2.2]), (4, .box 24 [.int .i64 t.1, .int .i64 t.2.1, .sl (.sl (.int .i64)) t.2.2.1, .sl (.sl (.int .i64)) t.2.2.2]), (9, .box 24 [.int .i64 v0_12.1, .int .i64 v0_12.2.1, .own 71000, .own 71001]), (11, .box 24 [.int .i64 v0_13.1, .int .i64 v0_13.2.1, .own 76000, .own 76001]), (71000, .arr 25 (.sl (.int .i64)) v0_12.2.2.1), (71001, .arr 25 (.sl (.int .i64)) v0_12.2.2.2.1), (76000, .arr 25 (.sl (.int .i64)) v0_13.2.2.1), (76001, .arr 25 (.sl (.int .i64)) v0_13.2.2.2.1), (167000, .arr 3 (.int .i64) v0_18.1)] ?_
                        refine zo ?_
                        refine zS 2 [(3, .bp 3 0), (4, .bp 4 0), (8, .int .i64 v0_18.2.2), (9, .bp 9 0), (11, .bp 11 0), (21, .own 167000), (162, .agg [.int .i64 v0_12.1, .int .i64 v0_12.2.1, .own 71000, .own 71001]), (163, .sl (.int .i64) word)] [(3, .box 24 [.int .i64 s.1, .int .i64 s.2.1, .sl (.sl (.int .i64)) s.2.2.1, .sl (.sl (.int .i64)) s.2.2.2]), (4, .box 24 [.int .i64 t.1, .int .i64 t.2.1, .sl (.sl (.int .i64)) t.2.2.1, .sl (.sl (.int .i64)) t.2.2.2]), (9, .box 24 [.int .i64 v0_12.1, .int .i64 v0_12.2.1, .own 71000, .own 71001]), (11, .box 24 [.int .i64 v0_13.1, .int .i64 v0_13.2.1, .own 76000, .own 76001]), (71000, .arr 25 (.sl (.int .i64)) v0_12.2.2.1), (71001, .arr 25 (.sl (.int .i64)) v0_12.2.2.2.1), (76000, .arr 25 (.sl (.int .i64)) v0_13.2.2.1), (76001, .arr 25 (.sl (.int .i64)) v0_13.2.2.2.1), (167000, .arr 3 (.int .i64) v0_18.1)] ?_
                        obtain ⟨v0_19, hv34, h⟩ := Option.bind_eq_some_iff.1 h
                        refine zC [71000, 71001] [] (hc_spec_Run (v0_12.1, v0_12.2.1, v0_12.2.2.1, v0_12.2.2.2.1) 0 word hv34) [(3, .bp 3 0), (4, .bp 4 0), (8, .int .i64 v0_18.2.2), (9, .bp 9 0), (11, .bp 11 0), (21, .own 167000), (164, .tup [.own 174000, .int .i64 v0_19.2.1, .int .i64 v0_19.2.2])] [(3, .box 24 [.int .i64 s.1, .int .i64 s.2.1, .sl (.sl (.int .i64)) s.2.2.1, .sl (.sl (.int .i64)) s.2.2.2]), (4, .box 24 [.int .i64 t.1, .int .i64 t.2.1, .sl (.sl (.int .i64)) t.2.2.1, .sl (.sl (.int .i64)) t.2.2.2]), (9, .box 24 [.int .i64 v0_12.1, .int .i64 v0_12.2.1, .own 71000, .own 71001]), (11, .box 24 [.int .i64 v0_13.1, .int .i64 v0_13.2.1, .own 76000, .own 76001]), (71000, .arr 25 (.sl (.int .i64)) v0_12.2.2.1), (71001, .arr 25 (.sl (.int .i64)) v0_12.2.2.2.1), (76000, .arr 25 (.sl (.int .i64)) v0_13.2.2.1), (76001, .arr 25 (.sl (.int .i64)) v0_13.2.2.2.1), (167000, .arr 3 (.int .i64) v0_18.1), (174000, .arr 3 (.int .i64) v0_19.1)] ?_
                        refine zB [(3, .bp 3 0), (4, .bp 4 0), (8, .int .i64 v0_18.2.2), (9, .bp 9 0), (10, .int .i64 v0_19.2.2), (11, .bp 11 0), (21, .own 167000), (23, .own 174000)] [(3, .box 24 [.int .i64 s.1, .int .i64 s.2.1, .sl (.sl (.int .i64)) s.2.2.1, .sl (.sl (.int .i64)) s.2.2.2]), (4, .box 24 [.int .i64 t.1, .int .i64 t.2.1, .sl (.sl (.int .i64)) t.2.2.1, .sl (.sl (.int .i64)) t.2.2.2]), (9, .box 24 [.int .i64 v0_12.1, .int .i64 v0_12.2.1, .own 71000, .own 71001]), (11, .box 24 [.int .i64 v0_13.1, .int .i64 v0_13.2.1, .own 76000, .own 76001]), (71000, .arr 25 (.sl (.int .i64)) v0_12.2.2.1), (71001, .arr 25 (.sl (.int .i64)) v0_12.2.2.2.1), (76000, .arr 25 (.sl (.int .i64)) v0_13.2.2.1), (76001, .arr 25 (.sl (.int .i64)) v0_13.2.2.2.1), (167000, .arr 3 (.int .i64) v0_18.1), (174000, .arr 3 (.int .i64) v0_19.1)] ?_
                        refine zo ?_
                        refine zS 2 [(3, .bp 3 0), (4, .bp 4 0), (8, .int .i64 v0_18.2.2), (9, .bp 9 0), (10, .int .i64 v0_19.2.2), (11, .bp 11 0), (21, .own 167000), (23, .own 174000), (169, .agg [.int .i64 s.1, .int .i64 s.2.1, .sl (.sl (.int .i64)) s.2.2.1, .sl (.sl (.int .i64)) s.2.2.2]), (170, .agg [.int .i64 t.1, .int .i64 t.2.1, .sl (.sl (.int .i64)) t.2.2.1, .sl (.sl (.int .i64)) t.2.2.2])] [(3, .box 24 [.int .i64 s.1, .int .i64 s.2.1, .sl (.sl (.int .i64)) s.2.2.1, .sl (.sl (.int .i64)) s.2.2.2]), (4, .box 24 [.int .i64 t.1, .int .i64 t.2.1, .sl (.sl (.int .i64)) t.2.2.1, .sl (.sl (.int .i64)) t.2.2.2]), (9, .box 24 [.int .i64 v0_12.1, .int .i64 v0_12.2.1, .own 71000, .own 71001]), (11, .box 24 [.int .i64 v0_13.1, .int .i64 v0_13.2.1, .own 76000, .own 76001]), (71000, .arr 25 (.sl (.int .i64)) v0_12.2.2.1), (71001, .arr 25 (.sl (.int .i64)) v0_12.2.2.2.1), (76000, .arr 25 (.sl (.int .i64)) v0_13.2.2.1), (76001, .arr 25 (.sl (.int .i64)) v0_13.2.2.2.1), (167000, .arr 3 (.int .i64) v0_18.1), (174000, .arr 3 (.int .i64) v0_19.1)] ?_
                        obtain ⟨v0_20, hv35, h⟩ := Option.bind_eq_some_iff.1 h
                        refine zC [] [] (hc_spec_Alike s t hv35) [(3, .bp 3 0), (4, .bp 4 0), (8, .int .i64 v0_18.2.2), (9, .bp 9 0), (10, .int .i64 v0_19.2.2), (11, .bp 11 0), (21, .own 167000), (23, .own 174000), (171, .tup [.bool v0_20.1, .int .i64 v0_20.2])] [(3, .box 24 [.int .i64 s.1, .int .i64 s.2.1, .sl (.sl (.int .i64)) s.2.2.1, .sl (.sl (.int .i64)) s.2.2.2]), (4, .box 24 [.int .i64 t.1, .int .i64 t.2.1, .sl (.sl (.int .i64)) t.2.2.1, .sl (.sl (.int .i64)) t.2.2.2]), (9, .box 24 [.int .i64 v0_12.1, .int .i64 v0_12.2.1, .own 71000, .own 71001]), (11, .box 24 [.int .i64 v0_13.1, .int .i64 v0_13.2.1, .own 76000, .own 76001]), (71000, .arr 25 (.sl (.int .i64)) v0_12.2.2.1), (71001, .arr 25 (.sl (.int .i64)) v0_12.2.2.2.1), (76000, .arr 25 (.sl (.int .i64)) v0_13.2.2.1), (76001, .arr 25 (.sl (.int .i64)) v0_13.2.2.2.1), (167000, .arr 3 (.int .i64) v0_18.1), (174000, .arr 3 (.int .i64) v0_19.1)] ?_
                        refine zB [(3, .bp 3 0), (4, .bp 4 0), (8, .int .i64 v0_18.2.2), (9, .bp 9 0), (10, .int .i64 v0_19.2.2), (11, .bp 11 0), (12, .int .i64 v0_20.2), (21, .own 167000), (23, .own 174000), (25, .bool v0_20.1)] [(3, .box 24 [.int .i64 s.1, .int .i64 s.2.1, .sl (.sl (.int .i64)) s.2.2.1, .sl (.sl (.int .i64)) s.2.2.2]), (4, .box 24 [.int .i64 t.1, .int .i64 t.2.1, .sl (.sl (.int .i64)) t.2.2.1, .sl (.sl (.int .i64)) t.2.2.2]), (9, .box 24 [.int .i64 v0_12.1, .int .i64 v0_12.2.1, .own 71000, .own 71001]), (11, .box 24 [.int .i64 v0_13.1, .int .i64 v0_13.2.1, .own 76000, .own 76001]), (71000, .arr 25 (.sl (.int .i64)) v0_12.2.2.1), (71001, .arr 25 (.sl (.int .i64)) v0_12.2.2.2.1), (76000, .arr 25 (.sl (.int .i64)) v0_13.2.2.1), (76001, .arr 25 (.sl (.int .i64)) v0_13.2.2.2.1), (167000, .arr 3 (.int .i64) v0_18.1), (174000, .arr 3 (.int .i64) v0_19.1)] ?_
                        refine AW.seq ?_
                        refine zo ?_
                        refine zS 3 [(3, .bp 3 0), (4, .bp 4 0), (9, .bp 9 0), (10, .int .i64 v0_19.2.2), (11, .bp 11 0), (12, .int .i64 v0_20.2), (21, .own 167000), (23, .own 174000), (25, .bool v0_20.1), (176, .bool (!(decide (v0_18.2.2 = 0))))] [(3, .box 24 [.int .i64 s.1, .int .i64 s.2.1, .sl (.sl (.int .i64)) s.2.2.1, .sl (.sl (.int .i64)) s.2.2.2]), (4, .box 24 [.int .i64 t.1, .int .i64 t.2.1, .sl (.sl (.int .i64)) t.2.2.1, .sl (.sl (.int .i64)) t.2.2.2]), (9, .box 24 [.int .i64 v0_12.1, .int .i64 v0_12.2.1, .own 71000, .own 71001]), (11, .box 24 [.int .i64 v0_13.1, .int .i64 v0_13.2.1, .own 76000, .own 76001]), (71000, .arr 25 (.sl (.int .i64)) v0_12.2.2.1), (71001, .arr 25 (.sl (.int .i64)) v0_12.2.2.2.1), (76000, .arr 25 (.sl (.int .i64)) v0_13.2.2.1), (76001, .arr 25 (.sl (.int .i64)) v0_13.2.2.2.1), (167000, .arr 3 (.int .i64) v0_18.1), (174000, .arr 3 (.int .i64) v0_19.1)] ?_
                        rcases zI h with ⟨hb36, h⟩ | ⟨hb36, h⟩
                        ·
                          refine zT [(3, .bp 3 0), (4, .bp 4 0), (9, .bp 9 0), (10, .int .i64 v0_19.2.2), (11, .bp 11 0), (12, .int .i64 v0_20.2), (21, .own 167000), (23, .own 174000), (25, .bool v0_20.1), (176, .bool true)] [(3, .box 24 [.int .i64 s.1, .int .i64 s.2.1, .sl (.sl (.int .i64)) s.2.2.1, .sl (.sl (.int .i64)) s.2.2.2]), (4, .box 24 [.int .i64 t.1, .int .i64 t.2.1, .sl (.sl (.int .i64)) t.2.2.1, .sl (.sl (.int .i64)) t.2.2.2]), (9, .box 24 [.int .i64 v0_12.1, .int .i64 v0_12.2.1, .own 71000, .own 71001]), (11, .box 24 [.int .i64 v0_13.1, .int .i64 v0_13.2.1, .own 76000, .own 76001]), (71000, .arr 25 (.sl (.int .i64)) v0_12.2.2.1), (71001, .arr 25 (.sl (.int .i64)) v0_12.2.2.2.1), (76000, .arr 25 (.sl (.int .i64)) v0_13.2.2.1), (76001, .arr 25 (.sl (.int .i64)) v0_13.2.2.2.1), (167000, .arr 3 (.int .i64) v0_18.1), (174000, .arr 3 (.int .i64) v0_19.1)] gt ?_
                          refine zS 6 [(3, .bp 3 0), (4, .bp 4 0), (9, .bp 9 0), (11, .bp 11 0), (21, .own 167000), (23, .own 174000), (25, .bool v0_20.1), (180, .bool true), (182, .cv (undef))] [(3, .box 24 [.int .i64 s.1, .int .i64 s.2.1, .sl (.sl (.int .i64)) s.2.2.1, .sl (.sl (.int .i64)) s.2.2.2]), (4, .box 24 [.int .i64 t.1, .int .i64 t.2.1, .sl (.sl (.int .i64)) t.2.2.1, .sl (.sl (.int .i64)) t.2.2.2]), (9, .box 24 [.int .i64 v0_12.1, .int .i64 v0_12.2.1, .own 71000, .own 71001]), (11, .box 24 [.int .i64 v0_13.1, .int .i64 v0_13.2.1, .own 76000, .own 76001]), (71000, .arr 25 (.sl (.int .i64)) v0_12.2.2.1), (71001, .arr 25 (.sl (.int .i64)) v0_12.2.2.2.1), (76000, .arr 25 (.sl (.int .i64)) v0_13.2.2.1), (76001, .arr 25 (.sl (.int .i64)) v0_13.2.2.2.1), (167000, .arr 3 (.int .i64) v0_18.1), (174000, .arr 3 (.int .i64) v0_19.1)] ?_
                          refine zS 6 [(3, .bp 3 0), (4, .bp 4 0), (9, .bp 9 0), (11, .bp 11 0), (25, .bool v0_20.1), (184, .bool true), (188, .cv (undef))] [(3, .box 24 [.int .i64 s.1, .int .i64 s.2.1, .sl (.sl (.int .i64)) s.2.2.1, .sl (.sl (.int .i64)) s.2.2.2]), (4, .box 24 [.int .i64 t.1, .int .i64 t.2.1, .sl (.sl (.int .i64)) t.2.2.1, .sl (.sl (.int .i64)) t.2.2.2]), (9, .box 24 [.int .i64 v0_12.1, .int .i64 v0_12.2.1, .own 71000, .own 71001]), (11, .box 24 [.int .i64 v0_13.1, .int .i64 v0_13.2.1, .own 76000, .own 76001]), (71000, .arr 25 (.sl (.int .i64)) v0_12.2.2.1), (71001, .arr 25 (.sl (.int .i64)) v0_12.2.2.2.1), (76000, .arr 25 (.sl (.int .i64)) v0_13.2.2.1), (76001, .arr 25 (.sl (.int .i64)) v0_13.2.2.2.1)] ?_
                          refine zS 6 [(3, .bp 3 0), (4, .bp 4 0), (9, .bp 9 0), (11, .bp 11 0), (25, .bool v0_20.1), (190, .bool true), (191, .cv (undef)), (194, .cv (undef))] [(3, .box 24 [.int .i64 s.1, .int .i64 s.2.1, .sl (.sl (.int .i64)) s.2.2.1, .sl (.sl (.int .i64)) s.2.2.2]), (4, .box 24 [.int .i64 t.1, .int .i64 t.2.1, .sl (.sl (.int .i64)) t.2.2.1, .sl (.sl (.int .i64)) t.2.2.2]), (9, .box 24 [.int .i64 v0_12.1, .int .i64 v0_12.2.1, .own 71000, .own 71001]), (11, .box 24 [.int .i64 v0_13.1, .int .i64 v0_13.2.1, .own 76000, .own 76001]), (71000, .arr 25 (.sl (.int .i64)) v0_12.2.2.1), (71001, .arr 25 (.sl (.int .i64)) v0_12.2.2.2.1), (76000, .arr 25 (.sl (.int .i64)) v0_13.2.2.1), (76001, .arr 25 (.sl (.int .i64)) v0_13.2.2.2.1)] ?_
                          refine zB [(3, .bp 3 0), (4, .bp 4 0), (9, .bp 9 0), (11, .bp 11 0), (25, .bool v0_20.1), (196, .bool true)] [(3, .box 24 [.int .i64 s.1, .int .i64 s.2.1, .sl (.sl (.int .i64)) s.2.2.1, .sl (.sl (.int .i64)) s.2.2.2]), (4, .box 24 [.int .i64 t.1, .int .i64 t.2.1, .sl (.sl (.int .i64)) t.2.2.1, .sl (.sl (.int .i64)) t.2.2.2]), (9, .box 24 [.int .i64 v0_12.1, .int .i64 v0_12.2.1, .own 71000, .own 71001]), (11, .box 24 [.int .i64 v0_13.1, .int .i64 v0_13.2.1, .own 76000, .own 76001]), (71000, .arr 25 (.sl (.int .i64)) v0_12.2.2.1), (71001, .arr 25 (.sl (.int .i64)) v0_12.2.2.2.1), (76000, .arr 25 (.sl (.int .i64)) v0_13.2.2.1), (76001, .arr 25 (.sl (.int .i64)) v0_13.2.2.2.1)] ?_
                          refine AW.cond (b := true) rfl (fun _ => ?_) (fun hb37 => by cases hb37)
                          refine zo ?_
                          refine zB [(6, .bool false)] [] ?_
                          refine zr ?_
                          obtain rfl := Option.some.inj h
                          exact zR [] [] []
                        ·
                          refine zT [(3, .bp 3 0), (4, .bp 4 0), (9, .bp 9 0), (10, .int .i64 v0_19.2.2), (11, .bp 11 0), (12, .int .i64 v0_20.2), (21, .own 167000), (23, .own 174000), (25, .bool v0_20.1), (176, .bool false)] [(3, .box 24 [.int .i64 s.1, .int .i64 s.2.1, .sl (.sl (.int .i64)) s.2.2.1, .sl (.sl (.int .i64)) s.2.2.2]), (4, .box 24 [.int .i64 t.1, .int .i64 t.2.1, .sl (.sl (.int .i64)) t.2.2.1, .sl (.sl (.int .i64)) t.2.2.2]), (9, .box 24 [.int .i64 v0_12.1, .int .i64 v0_12.2.1, .own 71000, .own 71001]), (11, .box 24 [.int .i64 v0_13.1, .int .i64 v0_13.2.1, .own 76000, .own 76001]), (71000, .arr 25 (.sl (.int .i64)) v0_12.2.2.1), (71001, .arr 25 (.sl (.int .i64)) v0_12.2.2.2.1), (76000, .arr 25 (.sl (.int .i64)) v0_13.2.2.1), (76001, .arr 25 (.sl (.int .i64)) v0_13.2.2.2.1), (167000, .arr 3 (.int .i64) v0_18.1), (174000, .arr 3 (.int .i64) v0_19.1)] gt ?_
                          refine zS 4 [(3, .bp 3 0), (4, .bp 4 0), (9, .bp 9 0), (11, .bp 11 0), (12, .int .i64 v0_20.2), (21, .own 167000), (23, .own 174000), (25, .bool v0_20.1), (180, .bool (!(decide (v0_19.2.2 = 0))))] [(3, .box 24 [.int .i64 s.1, .int .i64 s.2.1, .sl (.sl (.int .i64)) s.2.2.1, .sl (.sl (.int .i64)) s.2.2.2]), (4, .box 24 [.int .i64 t.1, .int .i64 t.2.1, .sl (.sl (.int .i64)) t.2.2.1, .sl (.sl (.int .i64)) t.2.2.2]), (9, .box 24 [.int .i64 v0_12.1, .int .i64 v0_12.2.1, .own 71000, .own 71001]), (11, .box 24 [.int .i64 v0_13.1, .int .i64 v0_13.2.1, .own 76000, .own 76001]), (71000, .arr 25 (.sl (.int .i64)) v0_12.2.2.1), (71001, .arr 25 (.sl (.int .i64)) v0_12.2.2.2.1), (76000, .arr 25 (.sl (.int .i64)) v0_13.2.2.1), (76001, .arr 25 (.sl (.int .i64)) v0_13.2.2.2.1), (167000, .arr 3 (.int .i64) v0_18.1), (174000, .arr 3 (.int .i64) v0_19.1)] ?_
                          rcases zI h with ⟨hb38, h⟩ | ⟨hb38, h⟩
                          ·
                            refine zT [(3, .bp 3 0), (4, .bp 4 0), (9, .bp 9 0), (11, .bp 11 0), (12, .int .i64 v0_20.2), (21, .own 167000), (23, .own 174000), (25, .bool v0_20.1), (180, .bool true)] [(3, .box 24 [.int .i64 s.1, .int .i64 s.2.1, .sl (.sl (.int .i64)) s.2.2.1, .sl (.sl (.int .i64)) s.2.2.2]), (4, .box 24 [.int .i64 t.1, .int .i64 t.2.1, .sl (.sl (.int .i64)) t.2.2.1, .sl (.sl (.int .i64)) t.2.2.2]), (9, .box 24 [.int .i64 v0_12.1, .int .i64 v0_12.2.1, .own 71000, .own 71001]), (11, .box 24 [.int .i64 v0_13.1, .int .i64 v0_13.2.1, .own 76000, .own 76001]), (71000, .arr 25 (.sl (.int .i64)) v0_12.2.2.1), (71001, .arr 25 (.sl (.int .i64)) v0_12.2.2.2.1), (76000, .arr 25 (.sl (.int .i64)) v0_13.2.2.1), (76001, .arr 25 (.sl (.int .i64)) v0_13.2.2.2.1), (167000, .arr 3 (.int .i64) v0_18.1), (174000, .arr 3 (.int .i64) v0_19.1)] gt ?_
                            refine zS 6 [(3, .bp 3 0), (4, .bp 4 0), (9, .bp 9 0), (11, .bp 11 0), (25, .bool v0_20.1), (184, .bool true), (185, .cv (undef)), (186, .cv (undef))] [(3, .box 24 [.int .i64 s.1, .int .i64 s.2.1, .sl (.sl (.int .i64)) s.2.2.1, .sl (.sl (.int .i64)) s.2.2.2]), (4, .box 24 [.int .i64 t.1, .int .i64 t.2.1, .sl (.sl (.int .i64)) t.2.2.1, .sl (.sl (.int .i64)) t.2.2.2]), (9, .box 24 [.int .i64 v0_12.1, .int .i64 v0_12.2.1, .own 71000, .own 71001]), (11, .box 24 [.int .i64 v0_13.1, .int .i64 v0_13.2.1, .own 76000, .own 76001]), (71000, .arr 25 (.sl (.int .i64)) v0_12.2.2.1), (71001, .arr 25 (.sl (.int .i64)) v0_12.2.2.2.1), (76000, .arr 25 (.sl (.int .i64)) v0_13.2.2.1), (76001, .arr 25 (.sl (.int .i64)) v0_13.2.2.2.1)] ?_
                            refine zS 6 [(3, .bp 3 0), (4, .bp 4 0), (9, .bp 9 0), (11, .bp 11 0), (25, .bool v0_20.1), (190, .bool true), (191, .cv (undef)), (192, .cv (undef))] [(3, .box 24 [.int .i64 s.1, .int .i64 s.2.1, .sl (.sl (.int .i64)) s.2.2.1, .sl (.sl (.int .i64)) s.2.2.2]), (4, .box 24 [.int .i64 t.1, .int .i64 t.2.1, .sl (.sl (.int .i64)) t.2.2.1, .sl (.sl (.int .i64)) t.2.2.2]), (9, .box 24 [.int .i64 v0_12.1, .int .i64 v0_12.2.1, .own 71000, .own 71001]), (11, .box 24 [.int .i64 v0_13.1, .int .i64 v0_13.2.1, .own 76000, .own 76001]), (71000, .arr 25 (.sl (.int .i64)) v0_12.2.2.1), (71001, .arr 25 (.sl (.int .i64)) v0_12.2.2.2.1), (76000, .arr 25 (.sl (.int .i64)) v0_13.2.2.1), (76001, .arr 25 (.sl (.int .i64)) v0_13.2.2.2.1)] ?_
                            refine zB [(3, .bp 3 0), (4, .bp 4 0), (9, .bp 9 0), (11, .bp 11 0), (25, .bool v0_20.1), (196, .bool true)] [(3, .box 24 [.int .i64 s.1, .int .i64 s.2.1, .sl (.sl (.int .i64)) s.2.2.1, .sl (.sl (.int .i64)) s.2.2.2]), (4, .box 24 [.int .i64 t.1, .int .i64 t.2.1, .sl (.sl (.int .i64)) t.2.2.1, .sl (.sl (.int .i64)) t.2.2.2]), (9, .box 24 [.int .i64 v0_12.1, .int .i64 v0_12.2.1, .own 71000, .own 71001]), (11, .box 24 [.int .i64 v0_13.1, .int .i64 v0_13.2.1, .own 76000, .own 76001]), (71000, .arr 25 (.sl (.int .i64)) v0_12.2.2.1), (71001, .arr 25 (.sl (.int .i64)) v0_12.2.2.2.1), (76000, .arr 25 (.sl (.int .i64)) v0_13.2.2.1), (76001, .arr 25 (.sl (.int .i64)) v0_13.2.2.2.1)] ?_
                            refine AW.cond (b := true) rfl (fun _ => ?_) (fun hb39 => by cases hb39)
                            refine zo ?_
                            refine zB [(6, .bool false)] [] ?_
                            refine zr ?_
                            obtain rfl := Option.some.inj h
                            exact zR [] [] []
                          ·
                            refine zT [(3, .bp 3 0), (4, .bp 4 0), (9, .bp 9 0), (11, .bp 11 0), (12, .int .i64 v0_20.2), (21, .own 167000), (23, .own 174000), (25, .bool v0_20.1), (180, .bool false)] [(3, .box 24 [.int .i64 s.1, .int .i64 s.2.1, .sl (.sl (.int .i64)) s.2.2.1, .sl (.sl (.int .i64)) s.2.2.2]), (4, .box 24 [.int .i64 t.1, .int .i64 t.2.1, .sl (.sl (.int .i64)) t.2.2.1, .sl (.sl (.int .i64)) t.2.2.2]), (9, .box 24 [.int .i64 v0_12.1, .int .i64 v0_12.2.1, .own 71000, .own 71001]), (11, .box 24 [.int .i64 v0_13.1, .int .i64 v0_13.2.1, .own 76000, .own 76001]), (71000, .arr 25 (.sl (.int .i64)) v0_12.2.2.1), (71001, .arr 25 (.sl (.int .i64)) v0_12.2.2.2.1), (76000, .arr 25 (.sl (.int .i64)) v0_13.2.2.1), (76001, .arr 25 (.sl (.int .i64)) v0_13.2.2.2.1), (167000, .arr 3 (.int .i64) v0_18.1), (174000, .arr 3 (.int .i64) v0_19.1)] gt ?_
                            refine zS 4 [(3, .bp 3 0), (4, .bp 4 0), (9, .bp 9 0), (11, .bp 11 0), (21, .own 167000), (23, .own 174000), (25, .bool v0_20.1), (184, .bool (!(decide (v0_20.2 = 0))))] [(3, .box 24 [.int .i64 s.1, .int .i64 s.2.1, .sl (.sl (.int .i64)) s.2.2.1, .sl (.sl (.int .i64)) s.2.2.2]), (4, .box 24 [.int .i64 t.1, .int .i64 t.2.1, .sl (.sl (.int .i64)) t.2.2.1, .sl (.sl (.int .i64)) t.2.2.2]), (9, .box 24 [.int .i64 v0_12.1, .int .i64 v0_12.2.1, .own 71000, .own 71001]), (11, .box 24 [.int .i64 v0_13.1, .int .i64 v0_13.2.1, .own 76000, .own 76001]), (71000, .arr 25 (.sl (.int .i64)) v0_12.2.2.1), (71001, .arr 25 (.sl (.int .i64)) v0_12.2.2.2.1), (76000, .arr 25 (.sl (.int .i64)) v0_13.2.2.1), (76001, .arr 25 (.sl (.int .i64)) v0_13.2.2.2.1), (167000, .arr 3 (.int .i64) v0_18.1), (174000, .arr 3 (.int .i64) v0_19.1)] ?_
                            rcases zI h with ⟨hb40, h⟩ | ⟨hb40, h⟩
                            ·
                              refine zT [(3, .bp 3 0), (4, .bp 4 0), (9, .bp 9 0), (11, .bp 11 0), (21, .own 167000), (23, .own 174000), (25, .bool v0_20.1), (184, .bool true)] [(3, .box 24 [.int .i64 s.1, .int .i64 s.2.1, .sl (.sl (.int .i64)) s.2.2.1, .sl (.sl (.int .i64)) s.2.2.2]), (4, .box 24 [.int .i64 t.1, .int .i64 t.2.1, .sl (.sl (.int .i64)) t.2.2.1, .sl (.sl (.int .i64)) t.2.2.2]), (9, .box 24 [.int .i64 v0_12.1, .int .i64 v0_12.2.1, .own 71000, .own 71001]), (11, .box 24 [.int .i64 v0_13.1, .int .i64 v0_13.2.1, .own 76000, .own 76001]), (71000, .arr 25 (.sl (.int .i64)) v0_12.2.2.1), (71001, .arr 25 (.sl (.int .i64)) v0_12.2.2.2.1), (76000, .arr 25 (.sl (.int .i64)) v0_13.2.2.1), (76001, .arr 25 (.sl (.int .i64)) v0_13.2.2.2.1), (167000, .arr 3 (.int .i64) v0_18.1), (174000, .arr 3 (.int .i64) v0_19.1)] gt ?_
                              refine zS 4 [(3, .bp 3 0), (4, .bp 4 0), (9, .bp 9 0), (11, .bp 11 0), (25, .bool v0_20.1), (184, .bool true), (188, .cv (undef))] [(3, .box 24 [.int .i64 s.1, .int .i64 s.2.1, .sl (.sl (.int .i64)) s.2.2.1, .sl (.sl (.int .i64)) s.2.2.2]), (4, .box 24 [.int .i64 t.1, .int .i64 t.2.1, .sl (.sl (.int .i64)) t.2.2.1, .sl (.sl (.int .i64)) t.2.2.2]), (9, .box 24 [.int .i64 v0_12.1, .int .i64 v0_12.2.1, .own 71000, .own 71001]), (11, .box 24 [.int .i64 v0_13.1, .int .i64 v0_13.2.1, .own 76000, .own 76001]), (71000, .arr 25 (.sl (.int .i64)) v0_12.2.2.1), (71001, .arr 25 (.sl (.int .i64)) v0_12.2.2.2.1), (76000, .arr 25 (.sl (.int .i64)) v0_13.2.2.1), (76001, .arr 25 (.sl (.int .i64)) v0_13.2.2.2.1)] ?_
                              refine zS 6 [(3, .bp 3 0), (4, .bp 4 0), (9, .bp 9 0), (11, .bp 11 0), (25, .bool v0_20.1), (190, .bool true), (191, .cv (undef)), (194, .cv (undef))] [(3, .box 24 [.int .i64 s.1, .int .i64 s.2.1, .sl (.sl (.int .i64)) s.2.2.1, .sl (.sl (.int .i64)) s.2.2.2]), (4, .box 24 [.int .i64 t.1, .int .i64 t.2.1, .sl (.sl (.int .i64)) t.2.2.1, .sl (.sl (.int .i64)) t.2.2.2]), (9, .box 24 [.int .i64 v0_12.1, .int .i64 v0_12.2.1, .own 71000, .own 71001]), (11, .box 24 [.int .i64 v0_13.1, .int .i64 v0_13.2.1, .own 76000, .own 76001]), (71000, .arr 25 (.sl (.int .i64)) v0_12.2.2.1), (71001, .arr 25 (.sl (.int .i64)) v0_12.2.2.2.1), (76000, .arr 25 (.sl (.int .i64)) v0_13.2.2.1), (76001, .arr 25 (.sl (.int .i64)) v0_13.2.2.2.1)] ?_
                              refine zB [(3, .bp 3 0), (4, .bp 4 0), (9, .bp 9 0), (11, .bp 11 0), (25, .bool v0_20.1), (196, .bool true)] [(3, .box 24 [.int .i64 s.1, .int .i64 s.2.1, .sl (.sl (.int .i64)) s.2.2.1, .sl (.sl (.int .i64)) s.2.2.2]), (4, .box 24 [.int .i64 t.1, .int .i64 t.2.1, .sl (.sl (.int .i64)) t.2.2.1, .sl (.sl (.int .i64)) t.2.2.2]), (9, .box 24 [.int .i64 v0_12.1, .int .i64 v0_12.2.1, .own 71000, .own 71001]), (11, .box 24 [.int .i64 v0_13.1, .int .i64 v0_13.2.1, .own 76000, .own 76001]), (71000, .arr 25 (.sl (.int .i64)) v0_12.2.2.1), (71001, .arr 25 (.sl (.int .i64)) v0_12.2.2.2.1), (76000, .arr 25 (.sl (.int .i64)) v0_13.2.2.1), (76001, .arr 25 (.sl (.int .i64)) v0_13.2.2.2.1)] ?_
                              refine AW.cond (b := true) rfl (fun _ => ?_) (fun hb41 => by cases hb41)
                              refine zo ?_
                              refine zB [(6, .bool false)] [] ?_
                              refine zr ?_
                              obtain rfl := Option.some.inj h
                              exact zR [] [] []
                            ·
                              refine zT [(3, .bp 3 0), (4, .bp 4 0), (9, .bp 9 0), (11, .bp 11 0), (21, .own 167000), (23, .own 174000), (25, .bool v0_20.1), (184, .bool false)] [(3, .box 24 [.int .i64 s.1, .int .i64 s.2.1, .sl (.sl (.int .i64)) s.2.2.1, .sl (.sl (.int .i64)) s.2.2.2]), (4, .box 24 [.int .i64 t.1, .int .i64 t.2.1, .sl (.sl (.int .i64)) t.2.2.1, .sl (.sl (.int .i64)) t.2.2.2]), (9, .box 24 [.int .i64 v0_12.1, .int .i64 v0_12.2.1, .own 71000, .own 71001]), (11, .box 24 [.int .i64 v0_13.1, .int .i64 v0_13.2.1, .own 76000, .own 76001]), (71000, .arr 25 (.sl (.int .i64)) v0_12.2.2.1), (71001, .arr 25 (.sl (.int .i64)) v0_12.2.2.2.1), (76000, .arr 25 (.sl (.int .i64)) v0_13.2.2.1), (76001, .arr 25 (.sl (.int .i64)) v0_13.2.2.2.1), (167000, .arr 3 (.int .i64) v0_18.1), (174000, .arr 3 (.int .i64) v0_19.1)] gt ?_
                              refine zS 2 [(3, .bp 3 0), (4, .bp 4 0), (9, .bp 9 0), (11, .bp 11 0), (25, .bool v0_20.1), (184, .bool false), (185, .own 167000), (186, .own 174000)] [(3, .box 24 [.int .i64 s.1, .int .i64 s.2.1, .sl (.sl (.int .i64)) s.2.2.1, .sl (.sl (.int .i64)) s.2.2.2]), (4, .box 24 [.int .i64 t.1, .int .i64 t.2.1, .sl (.sl (.int .i64)) t.2.2.1, .sl (.sl (.int .i64)) t.2.2.2]), (9, .box 24 [.int .i64 v0_12.1, .int .i64 v0_12.2.1, .own 71000, .own 71001]), (11, .box 24 [.int .i64 v0_13.1, .int .i64 v0_13.2.1, .own 76000, .own 76001]), (71000, .arr 25 (.sl (.int .i64)) v0_12.2.2.1), (71001, .arr 25 (.sl (.int .i64)) v0_12.2.2.2.1), (76000, .arr 25 (.sl (.int .i64)) v0_13.2.2.1), (76001, .arr 25 (.sl (.int .i64)) v0_13.2.2.2.1), (167000, .arr 3 (.int .i64) v0_18.1), (174000, .arr 3 (.int .i64) v0_19.1)] ?_
                              obtain ⟨v0_21, hv42, h⟩ := Option.bind_eq_some_iff.1 h
                              refine zG [167000, 174000] [] (hc_linealref01_SameInts v0_18.1 v0_19.1 hv42) [(3, .bp 3 0), (4, .bp 4 0), (9, .bp 9 0), (11, .bp 11 0), (25, .bool v0_20.1), (184, .bool false), (187, .bool v0_21)] [(3, .box 24 [.int .i64 s.1, .int .i64 s.2.1, .sl (.sl (.int .i64)) s.2.2.1, .sl (.sl (.int .i64)) s.2.2.2]), (4, .box 24 [.int .i64 t.1, .int .i64 t.2.1, .sl (.sl (.int .i64)) t.2.2.1, .sl (.sl (.int .i64)) t.2.2.2]), (9, .box 24 [.int .i64 v0_12.1, .int .i64 v0_12.2.1, .own 71000, .own 71001]), (11, .box 24 [.int .i64 v0_13.1, .int .i64 v0_13.2.1, .own 76000, .own 76001]), (71000, .arr 25 (.sl (.int .i64)) v0_12.2.2.1), (71001, .arr 25 (.sl (.int .i64)) v0_12.2.2.2.1), (76000, .arr 25 (.sl (.int .i64)) v0_13.2.2.1), (76001, .arr 25 (.sl (.int .i64)) v0_13.2.2.2.1)] ?_
                              refine zS 3 [(3, .bp 3 0), (4, .bp 4 0), (9, .bp 9 0), (11, .bp 11 0), (25, .bool v0_20.1), (190, .bool (!v0_21))] [(3, .box 24 [.int .i64 s.1, .int .i64 s.2.1, .sl (.sl (.int .i64)) s.2.2.1, .sl (.sl (.int .i64)) s.2.2.2]), (4, .box 24 [.int .i64 t.1, .int .i64 t.2.1, .sl (.sl (.int .i64)) t.2.2.1, .sl (.sl (.int .i64)) t.2.2.2]), (9, .box 24 [.int .i64 v0_12.1, .int .i64 v0_12.2.1, .own 71000, .own 71001]), (11, .box 24 [.int .i64 v0_13.1, .int .i64 v0_13.2.1, .own 76000, .own 76001]), (71000, .arr 25 (.sl (.int .i64)) v0_12.2.2.1), (71001, .arr 25 (.sl (.int .i64)) v0_12.2.2.2.1), (76000, .arr 25 (.sl (.int .i64)) v0_13.2.2.1), (76001, .arr 25 (.sl (.int .i64)) v0_13.2.2.2.1)] ?_
                              rcases zI h with ⟨hb43, h⟩ | ⟨hb43, h⟩
                              ·
                                refine zT [(3, .bp 3 0), (4, .bp 4 0), (9, .bp 9 0), (11, .bp 11 0), (25, .bool v0_20.1), (190, .bool true)] [(3, .box 24 [.int .i64 s.1, .int .i64 s.2.1, .sl (.sl (.int .i64)) s.2.2.1, .sl (.sl (.int .i64)) s.2.2.2]), (4, .box 24 [.int .i64 t.1, .int .i64 t.2.1, .sl (.sl (.int .i64)) t.2.2.1, .sl (.sl (.int .i64)) t.2.2.2]), (9, .box 24 [.int .i64 v0_12.1, .int .i64 v0_12.2.1, .own 71000, .own 71001]), (11, .box 24 [.int .i64 v0_13.1, .int .i64 v0_13.2.1, .own 76000, .own 76001]), (71000, .arr 25 (.sl (.int .i64)) v0_12.2.2.1), (71001, .arr 25 (.sl (.int .i64)) v0_12.2.2.2.1), (76000, .arr 25 (.sl (.int .i64)) v0_13.2.2.1), (76001, .arr 25 (.sl (.int .i64)) v0_13.2.2.2.1)] gt ?_
                                refine zS 4 [(3, .bp 3 0), (4, .bp 4 0), (9, .bp 9 0), (11, .bp 11 0), (25, .bool v0_20.1), (190, .bool true), (191, .cv (undef)), (194, .cv (undef))] [(3, .box 24 [.int .i64 s.1, .int .i64 s.2.1, .sl (.sl (.int .i64)) s.2.2.1, .sl (.sl (.int .i64)) s.2.2.2]), (4, .box 24 [.int .i64 t.1, .int .i64 t.2.1, .sl (.sl (.int .i64)) t.2.2.1, .sl (.sl (.int .i64)) t.2.2.2]), (9, .box 24 [.int .i64 v0_12.1, .int .i64 v0_12.2.1, .own 71000, .own 71001]), (11, .box 24 [.int .i64 v0_13.1, .int .i64 v0_13.2.1, .own 76000, .own 76001]), (71000, .arr 25 (.sl (.int .i64)) v0_12.2.2.1), (71001, .arr 25 (.sl (.int .i64)) v0_12.2.2.2.1), (76000, .arr 25 (.sl (.int .i64)) v0_13.2.2.1), (76001, .arr 25 (.sl (.int .i64)) v0_13.2.2.2.1)] ?_
                                refine zB [(3, .bp 3 0), (4, .bp 4 0), (9, .bp 9 0), (11, .bp 11 0), (25, .bool v0_20.1), (196, .bool true)] [(3, .box 24 [.int .i64 s.1, .int .i64 s.2.1, .sl (.sl (.int .i64)) s.2.2.1, .sl (.sl (.int .i64)) s.2.2.2]), (4, .box 24 [.int .i64 t.1, .int .i64 t.2.1, .sl (.sl (.int .i64)) t.2.2.1, .sl (.sl (.int .i64)) t.2.2.2]), (9, .box 24 [.int .i64 v0_12.1, .int .i64 v0_12.2.1, .own 71000, .own 71001]), (11, .box 24 [.int .i64 v0_13.1, .int .i64 v0_13.2.1, .own 76000, .own 76001]), (71000, .arr 25 (.sl (.int .i64)) v0_12.2.2.1), (71001, .arr 25 (.sl (.int .i64)) v0_12.2.2.2.1), (76000, .arr 25 (.sl (.int .i64)) v0_13.2.2.1), (76001, .arr 25 (.sl (.int .i64)) v0_13.2.2.2.1)] ?_
                                refine AW.cond (b := true) rfl (fun _ => ?_) (fun hb44 => by cases hb44)
                                refine zo ?_
                                refine zB [(6, .bool false)] [] ?_
                                refine zr ?_
                                obtain rfl := Option.some.inj h
                                exact zR [] [] []
                              ·
                                refine zT [(3, .bp 3 0), (4, .bp 4 0), (9, .bp 9 0), (11, .bp 11 0), (25, .bool v0_20.1), (190, .bool false)] [(3, .box 24 [.int .i64 s.1, .int .i64 s.2.1, .sl (.sl (.int .i64)) s.2.2.1, .sl (.sl (.int .i64)) s.2.2.2]), (4, .box 24 [.int .i64 t.1, .int .i64 t.2.1, .sl (.sl (.int .i64)) t.2.2.1, .sl (.sl (.int .i64)) t.2.2.2]), (9, .box 24 [.int .i64 v0_12.1, .int .i64 v0_12.2.1, .own 71000, .own 71001]), (11, .box 24 [.int .i64 v0_13.1, .int .i64 v0_13.2.1, .own 76000, .own 76001]), (71000, .arr 25 (.sl (.int .i64)) v0_12.2.2.1), (71001, .arr 25 (.sl (.int .i64)) v0_12.2.2.2.1), (76000, .arr 25 (.sl (.int .i64)) v0_13.2.2.1), (76001, .arr 25 (.sl (.int .i64)) v0_13.2.2.2.1)] gt ?_
                                refine zS 3 [(3, .bp 3 0), (4, .bp 4 0), (9, .bp 9 0), (11, .bp 11 0), (25, .bool v0_20.1), (190, .bool false), (191, .bool v0_20.1), (192, .agg [.int .i64 v0_12.1, .int .i64 v0_12.2.1, .own 71000, .own 71001]), (193, .agg [.int .i64 v0_13.1, .int .i64 v0_13.2.1, .own 76000, .own 76001])] [(3, .box 24 [.int .i64 s.1, .int .i64 s.2.1, .sl (.sl (.int .i64)) s.2.2.1, .sl (.sl (.int .i64)) s.2.2.2]), (4, .box 24 [.int .i64 t.1, .int .i64 t.2.1, .sl (.sl (.int .i64)) t.2.2.1, .sl (.sl (.int .i64)) t.2.2.2]), (9, .box 24 [.int .i64 v0_12.1, .int .i64 v0_12.2.1, .own 71000, .own 71001]), (11, .box 24 [.int .i64 v0_13.1, .int .i64 v0_13.2.1, .own 76000, .own 76001]), (71000, .arr 25 (.sl (.int .i64)) v0_12.2.2.1), (71001, .arr 25 (.sl (.int .i64)) v0_12.2.2.2.1), (76000, .arr 25 (.sl (.int .i64)) v0_13.2.2.1), (76001, .arr 25 (.sl (.int .i64)) v0_13.2.2.2.1)] ?_
                                obtain ⟨v0_22, hv45, h⟩ := Option.bind_eq_some_iff.1 h
                                refine zG [71000, 71001, 76000, 76001] [] (hc_linealref01_Equal (v0_12.1, v0_12.2.1, v0_12.2.2.1, v0_12.2.2.2.1) (v0_13.1, v0_13.2.1, v0_13.2.2.1, v0_13.2.2.2.1) hv45) [(3, .bp 3 0), (4, .bp 4 0), (9, .bp 9 0), (11, .bp 11 0), (25, .bool v0_20.1), (190, .bool false), (191, .bool v0_20.1), (194, .bool v0_22)] [(3, .box 24 [.int .i64 s.1, .int .i64 s.2.1, .sl (.sl (.int .i64)) s.2.2.1, .sl (.sl (.int .i64)) s.2.2.2]), (4, .box 24 [.int .i64 t.1, .int .i64 t.2.1, .sl (.sl (.int .i64)) t.2.2.1, .sl (.sl (.int .i64)) t.2.2.2]), (9, .box 24 [.int .i64 v0_12.1, .int .i64 v0_12.2.1, .own 71000, .own 71001]), (11, .box 24 [.int .i64 v0_13.1, .int .i64 v0_13.2.1, .own 76000, .own 76001]), (71000, .arr 25 (.sl (.int .i64)) v0_12.2.2.1), (71001, .arr 25 (.sl (.int .i64)) v0_12.2.2.2.1), (76000, .arr 25 (.sl (.int .i64)) v0_13.2.2.1), (76001, .arr 25 (.sl (.int .i64)) v0_13.2.2.2.1)] ?_
                                refine zB [(3, .bp 3 0), (4, .bp 4 0), (9, .bp 9 0), (11, .bp 11 0), (25, .bool v0_20.1), (196, .bool ((v0_20.1 == v0_22) != true))] [(3, .box 24 [.int .i64 s.1, .int .i64 s.2.1, .sl (.sl (.int .i64)) s.2.2.1, .sl (.sl (.int .i64)) s.2.2.2]), (4, .box 24 [.int .i64 t.1, .int .i64 t.2.1, .sl (.sl (.int .i64)) t.2.2.1, .sl (.sl (.int .i64)) t.2.2.2]), (9, .box 24 [.int .i64 v0_12.1, .int .i64 v0_12.2.1, .own 71000, .own 71001]), (11, .box 24 [.int .i64 v0_13.1, .int .i64 v0_13.2.1, .own 76000, .own 76001]), (71000, .arr 25 (.sl (.int .i64)) v0_12.2.2.1), (71001, .arr 25 (.sl (.int .i64)) v0_12.2.2.2.1), (76000, .arr 25 (.sl (.int .i64)) v0_13.2.2.1), (76001, .arr 25 (.sl (.int .i64)) v0_13.2.2.2.1)] ?_
                                refine zQ h (fun hb46 h => ?_) (fun hb46 h => ?_)
                                ·
                                  refine zo ?_
                                  refine zB [(6, .bool false)] [] ?_
                                  refine zr ?_
                                  obtain rfl := Option.some.inj h
                                  exact zR [] [] []
                                ·
                                  refine zk ?_
                                  refine zo ?_
                                  refine zS 2 [(3, .bp 3 0), (4, .bp 4 0), (9, .bp 9 0), (11, .bp 11 0), (25, .bool v0_20.1), (198, .agg [.int .i64 s.1, .int .i64 s.2.1, .sl (.sl (.int .i64)) s.2.2.1, .sl (.sl (.int .i64)) s.2.2.2]), (199, .agg [.int .i64 t.1, .int .i64 t.2.1, .sl (.sl (.int .i64)) t.2.2.1, .sl (.sl (.int .i64)) t.2.2.2])] [(3, .box 24 [.int .i64 s.1, .int .i64 s.2.1, .sl (.sl (.int .i64)) s.2.2.1, .sl (.sl (.int .i64)) s.2.2.2]), (4, .box 24 [.int .i64 t.1, .int .i64 t.2.1, .sl (.sl (.int .i64)) t.2.2.1, .sl (.sl (.int .i64)) t.2.2.2]), (9, .box 24 [.int .i64 v0_12.1, .int .i64 v0_12.2.1, .own 71000, .own 71001]), (11, .box 24 [.int .i64 v0_13.1, .int .i64 v0_13.2.1, .own 76000, .own 76001]), (71000, .arr 25 (.sl (.int .i64)) v0_12.2.2.1), (71001, .arr 25 (.sl (.int .i64)) v0_12.2.2.2.1), (76000, .arr 25 (.sl (.int .i64)) v0_13.2.2.1), (76001, .arr 25 (.sl (.int .i64)) v0_13.2.2.2.1)] ?_
                                  obtain ⟨v0_23, hv47, h⟩ := Option.bind_eq_some_iff.1 h
                                  refine zC [] [] (hc_spec_Unlike s t hv47) [(3, .bp 3 0), (4, .bp 4 0), (9, .bp 9 0), (11, .bp 11 0), (25, .bool v0_20.1), (200, .tup [.own 210000, .int .i64 v0_23.2])] [(3, .box 24 [.int .i64 s.1, .int .i64 s.2.1, .sl (.sl (.int .i64)) s.2.2.1, .sl (.sl (.int .i64)) s.2.2.2]), (4, .box 24 [.int .i64 t.1, .int .i64 t.2.1, .sl (.sl (.int .i64)) t.2.2.1, .sl (.sl (.int .i64)) t.2.2.2]), (9, .box 24 [.int .i64 v0_12.1, .int .i64 v0_12.2.1, .own 71000, .own 71001]), (11, .box 24 [.int .i64 v0_13.1, .int .i64 v0_13.2.1, .own 76000, .own 76001]), (71000, .arr 25 (.sl (.int .i64)) v0_12.2.2.1), (71001, .arr 25 (.sl (.int .i64)) v0_12.2.2.2.1), (76000, .arr 25 (.sl (.int .i64)) v0_13.2.2.1), (76001, .arr 25 (.sl (.int .i64)) v0_13.2.2.2.1), (210000, .arr 3 (.int .i64) v0_23.1)] ?_
                                  refine zB [(3, .bp 3 0), (4, .bp 4 0), (8, .int .i64 v0_23.2), (9, .bp 9 0), (11, .bp 11 0), (25, .bool v0_20.1), (26, .own 210000)] [(3, .box 24 [.int .i64 s.1, .int .i64 s.2.1, .sl (.sl (.int .i64)) s.2.2.1, .sl (.sl (.int .i64)) s.2.2.2]), (4, .box 24 [.int .i64 t.1, .int .i64 t.2.1, .sl (.sl (.int .i64)) t.2.2.1, .sl (.sl (.int .i64)) t.2.2.2]), (9, .box 24 [.int .i64 v0_12.1, .int .i64 v0_12.2.1, .own 71000, .own 71001]), (11, .box 24 [.int .i64 v0_13.1, .int .i64 v0_13.2.1, .own 76000, .own 76001]), (71000, .arr 25 (.sl (.int .i64)) v0_12.2.2.1), (71001, .arr 25 (.sl (.int .i64)) v0_12.2.2.2.1), (76000, .arr 25 (.sl (.int .i64)) v0_13.2.2.1), (76001, .arr 25 (.sl (.int .i64)) v0_13.2.2.2.1), (210000, .arr 3 (.int .i64) v0_23.1)] ?_
                                  refine AW.seq ?_
                                  refine zo ?_
                                  refine zB [(3, .bp 3 0), (4, .bp 4 0), (8, .int .i64 v0_23.2), (9, .bp 9 0), (11, .bp 11 0), (25, .bool v0_20.1), (26, .own 210000), (204, .bool (!(decide (v0_23.2 = 0))))] [(3, .box 24 [.int .i64 s.1, .int .i64 s.2.1, .sl (.sl (.int .i64)) s.2.2.1, .sl (.sl (.int .i64)) s.2.2.2]), (4, .box 24 [.int .i64 t.1, .int .i64 t.2.1, .sl (.sl (.int .i64)) t.2.2.1, .sl (.sl (.int .i64)) t.2.2.2]), (9, .box 24 [.int .i64 v0_12.1, .int .i64 v0_12.2.1, .own 71000, .own 71001]), (11, .box 24 [.int .i64 v0_13.1, .int .i64 v0_13.2.1, .own 76000, .own 76001]), (71000, .arr 25 (.sl (.int .i64)) v0_12.2.2.1), (71001, .arr 25 (.sl (.int .i64)) v0_12.2.2.2.1), (76000, .arr 25 (.sl (.int .i64)) v0_13.2.2.1), (76001, .arr 25 (.sl (.int .i64)) v0_13.2.2.2.1), (210000, .arr 3 (.int .i64) v0_23.1)] ?_
                                  refine zQ h (fun hb48 h => ?_) (fun hb48 h => ?_)
                                  ·
                                    refine zo ?_
                                    refine zS 5 [(3, .bp 3 0), (4, .bp 4 0), (8, .int .i64 v0_23.2), (25, .bool v0_20.1), (209, .bool ((v0_20.1 == (decide (v0_23.2 = 5))) != false))] [(3, .box 24 [.int .i64 s.1, .int .i64 s.2.1, .sl (.sl (.int .i64)) s.2.2.1, .sl (.sl (.int .i64)) s.2.2.2]), (4, .box 24 [.int .i64 t.1, .int .i64 t.2.1, .sl (.sl (.int .i64)) t.2.2.1, .sl (.sl (.int .i64)) t.2.2.2])] ?_
                                    rcases zI h with ⟨hb49, h⟩ | ⟨hb49, h⟩
                                    ·
                                      refine zT [(3, .bp 3 0), (4, .bp 4 0), (8, .int .i64 v0_23.2), (25, .bool v0_20.1), (209, .bool true)] [(3, .box 24 [.int .i64 s.1, .int .i64 s.2.1, .sl (.sl (.int .i64)) s.2.2.1, .sl (.sl (.int .i64)) s.2.2.2]), (4, .box 24 [.int .i64 t.1, .int .i64 t.2.1, .sl (.sl (.int .i64)) t.2.2.1, .sl (.sl (.int .i64)) t.2.2.2])] gt ?_
                                      refine zS 2 [(3, .bp 3 0), (4, .bp 4 0), (8, .int .i64 v0_23.2), (209, .bool true), (211, .bool v0_20.1)] [(3, .box 24 [.int .i64 s.1, .int .i64 s.2.1, .sl (.sl (.int .i64)) s.2.2.1, .sl (.sl (.int .i64)) s.2.2.2]), (4, .box 24 [.int .i64 t.1, .int .i64 t.2.1, .sl (.sl (.int .i64)) t.2.2.1, .sl (.sl (.int .i64)) t.2.2.2])] ?_
                                      rcases zI h with ⟨hb50, h⟩ | ⟨hb50, h⟩
                                      ·
                                        refine zT [(3, .bp 3 0), (4, .bp 4 0), (8, .int .i64 v0_23.2), (209, .bool true), (211, .bool true)] [(3, .box 24 [.int .i64 s.1, .int .i64 s.2.1, .sl (.sl (.int .i64)) s.2.2.1, .sl (.sl (.int .i64)) s.2.2.2]), (4, .box 24 [.int .i64 t.1, .int .i64 t.2.1, .sl (.sl (.int .i64)) t.2.2.1, .sl (.sl (.int .i64)) t.2.2.2])] gt ?_
                                        refine zS 4 [(4, .bp 4 0), (209, .bool true), (211, .bool true), (214, .cv (undef)), (215, .cv (undef))] [(4, .box 24 [.int .i64 t.1, .int .i64 t.2.1, .sl (.sl (.int .i64)) t.2.2.1, .sl (.sl (.int .i64)) t.2.2.2])] ?_
                                        refine zS 4 [(209, .bool true), (211, .bool true), (214, .cv (undef)), (219, .cv (undef))] [] ?_
                                        refine zS 4 [(223, .bool true)] [] ?_
                                        obtain ⟨v0_24, hv51, h⟩ := Option.bind_eq_some_iff.1 h
                                        refine zG [] [] (hc_lineallaw01_Awake hv51) [(223, .bool true), (224, .bool v0_24)] [] ?_
                                        refine zB [(6, .bool v0_24)] [] ?_
                                        refine zr ?_
                                        obtain rfl := Option.some.inj h
                                        exact zR [] [] []
                                      ·
                                        refine zT [(3, .bp 3 0), (4, .bp 4 0), (8, .int .i64 v0_23.2), (209, .bool true), (211, .bool false)] [(3, .box 24 [.int .i64 s.1, .int .i64 s.2.1, .sl (.sl (.int .i64)) s.2.2.1, .sl (.sl (.int .i64)) s.2.2.2]), (4, .box 24 [.int .i64 t.1, .int .i64 t.2.1, .sl (.sl (.int .i64)) t.2.2.1, .sl (.sl (.int .i64)) t.2.2.2])] gt ?_
                                        refine zS 3 [(3, .bp 3 0), (4, .bp 4 0), (209, .bool true), (211, .bool false), (214, .bool (decide (v0_23.2 = 2)))] [(3, .box 24 [.int .i64 s.1, .int .i64 s.2.1, .sl (.sl (.int .i64)) s.2.2.1, .sl (.sl (.int .i64)) s.2.2.2]), (4, .box 24 [.int .i64 t.1, .int .i64 t.2.1, .sl (.sl (.int .i64)) t.2.2.1, .sl (.sl (.int .i64)) t.2.2.2])] ?_
                                        rcases zI h with ⟨hb52, h⟩ | ⟨hb52, h⟩
                                        ·
                                          refine zT [(3, .bp 3 0), (4, .bp 4 0), (209, .bool true), (211, .bool false), (214, .bool true)] [(3, .box 24 [.int .i64 s.1, .int .i64 s.2.1, .sl (.sl (.int .i64)) s.2.2.1, .sl (.sl (.int .i64)) s.2.2.2]), (4, .box 24 [.int .i64 t.1, .int .i64 t.2.1, .sl (.sl (.int .i64)) t.2.2.1, .sl (.sl (.int .i64)) t.2.2.2])] gt ?_
                                          refine zS 9 [(223, .bool (!(decide (s.2.1 = t.2.1))))] [] ?_
                                          rcases zI h with ⟨hb53, h⟩ | ⟨hb53, h⟩
                                          ·
                                            refine zT [(223, .bool true)] [] gt ?_
                                            obtain ⟨v0_25, hv54, h⟩ := Option.bind_eq_some_iff.1 h
                                            refine zG [] [] (hc_lineallaw01_Awake hv54) [(223, .bool true), (224, .bool v0_25)] [] ?_
                                            refine zB [(6, .bool v0_25)] [] ?_
                                            refine zr ?_
                                            obtain rfl := Option.some.inj h
                                            exact zR [] [] []
                                          ·
                                            refine zT [(223, .bool false)] [] gt ?_
                                            refine zB [(6, .bool false)] [] ?_
                                            refine zr ?_
                                            obtain rfl := Option.some.inj h
                                            exact zR [] [] []
                                        ·
                                          refine zT [(3, .bp 3 0), (4, .bp 4 0), (209, .bool true), (211, .bool false), (214, .bool false)] [(3, .box 24 [.int .i64 s.1, .int .i64 s.2.1, .sl (.sl (.int .i64)) s.2.2.1, .sl (.sl (.int .i64)) s.2.2.2]), (4, .box 24 [.int .i64 t.1, .int .i64 t.2.1, .sl (.sl (.int .i64)) t.2.2.1, .sl (.sl (.int .i64)) t.2.2.2])] gt ?_
                                          refine zS 4 [(209, .bool true), (211, .bool false), (214, .bool false), (216, .cv (undef)), (218, .cv (undef))] [] ?_
                                          refine zB [(6, .bool false)] [] ?_
                                          refine zr ?_
                                          obtain rfl := Option.some.inj h
                                          exact zR [] [] []
                                    ·
                                      refine zT [(3, .bp 3 0), (4, .bp 4 0), (8, .int .i64 v0_23.2), (25, .bool v0_20.1), (209, .bool false)] [(3, .box 24 [.int .i64 s.1, .int .i64 s.2.1, .sl (.sl (.int .i64)) s.2.2.1, .sl (.sl (.int .i64)) s.2.2.2]), (4, .box 24 [.int .i64 t.1, .int .i64 t.2.1, .sl (.sl (.int .i64)) t.2.2.1, .sl (.sl (.int .i64)) t.2.2.2])] gt ?_
                                      refine zS 4 [(3, .bp 3 0), (4, .bp 4 0), (209, .bool false), (211, .cv (undef)), (213, .cv (undef))] [(3, .box 24 [.int .i64 s.1, .int .i64 s.2.1, .sl (.sl (.int .i64)) s.2.2.1, .sl (.sl (.int .i64)) s.2.2.2]), (4, .box 24 [.int .i64 t.1, .int .i64 t.2.1, .sl (.sl (.int .i64)) t.2.2.1, .sl (.sl (.int .i64)) t.2.2.2])] ?_
                                      refine zS 4 [(209, .bool false), (211, .cv (undef)), (214, .cv (undef)), (216, .cv (undef)), (217, .cv (undef))] [] ?_
                                      refine zS 4 [(209, .bool false), (221, .cv (undef))] [] ?_
                                      refine zB [(6, .bool false)] [] ?_
                                      refine zr ?_
                                      obtain rfl := Option.some.inj h
                                      exact zR [] [] []
                                  ·
                                    refine zk ?_
                                    refine zo ?_
                                    refine zS 2 [(11, .bp 11 0), (25, .bool v0_20.1), (26, .own 210000), (227, .agg [.int .i64 v0_12.1, .int .i64 v0_12.2.1, .own 71000, .own 71001]), (228, .own 210000)] [(11, .box 24 [.int .i64 v0_13.1, .int .i64 v0_13.2.1, .own 76000, .own 76001]), (71000, .arr 25 (.sl (.int .i64)) v0_12.2.2.1), (71001, .arr 25 (.sl (.int .i64)) v0_12.2.2.2.1), (76000, .arr 25 (.sl (.int .i64)) v0_13.2.2.1), (76001, .arr 25 (.sl (.int .i64)) v0_13.2.2.2.1), (210000, .arr 3 (.int .i64) v0_23.1)] ?_
                                    obtain ⟨v0_26, hv55, h⟩ := Option.bind_eq_some_iff.1 h
                                    refine zC [71000, 71001, 210000] [] (hc_spec_Run (v0_12.1, v0_12.2.1, v0_12.2.2.1, v0_12.2.2.2.1) 0 v0_23.1 hv55) [(11, .bp 11 0), (25, .bool v0_20.1), (26, .own 210000), (229, .tup [.own 239000, .int .i64 v0_26.2.1, .int .i64 v0_26.2.2])] [(11, .box 24 [.int .i64 v0_13.1, .int .i64 v0_13.2.1, .own 76000, .own 76001]), (76000, .arr 25 (.sl (.int .i64)) v0_13.2.2.1), (76001, .arr 25 (.sl (.int .i64)) v0_13.2.2.2.1), (210000, .arr 3 (.int .i64) v0_23.1), (239000, .arr 3 (.int .i64) v0_26.1)] ?_
                                    refine zB [(10, .int .i64 v0_26.2.2), (11, .bp 11 0), (25, .bool v0_20.1), (26, .own 210000), (27, .own 239000)] [(11, .box 24 [.int .i64 v0_13.1, .int .i64 v0_13.2.1, .own 76000, .own 76001]), (76000, .arr 25 (.sl (.int .i64)) v0_13.2.2.1), (76001, .arr 25 (.sl (.int .i64)) v0_13.2.2.2.1), (210000, .arr 3 (.int .i64) v0_23.1), (239000, .arr 3 (.int .i64) v0_26.1)] ?_
                                    refine zo ?_
                                    refine zS 2 [(10, .int .i64 v0_26.2.2), (25, .bool v0_20.1), (27, .own 239000), (234, .agg [.int .i64 v0_13.1, .int .i64 v0_13.2.1, .own 76000, .own 76001]), (235, .own 210000)] [(76000, .arr 25 (.sl (.int .i64)) v0_13.2.2.1), (76001, .arr 25 (.sl (.int .i64)) v0_13.2.2.2.1), (210000, .arr 3 (.int .i64) v0_23.1), (239000, .arr 3 (.int .i64) v0_26.1)] ?_
                                    obtain ⟨v0_27, hv56, h⟩ := Option.bind_eq_some_iff.1 h
                                    refine zC [76000, 76001, 210000] [] (hc_spec_Run (v0_13.1, v0_13.2.1, v0_13.2.2.1, v0_13.2.2.2.1) 0 v0_23.1 hv56) [(10, .int .i64 v0_26.2.2), (25, .bool v0_20.1), (27, .own 239000), (236, .tup [.own 246000, .int .i64 v0_27.2.1, .int .i64 v0_27.2.2])] [(239000, .arr 3 (.int .i64) v0_26.1), (246000, .arr 3 (.int .i64) v0_27.1)] ?_
                                    refine zB [(10, .int .i64 v0_26.2.2), (12, .int .i64 v0_27.2.2), (25, .bool v0_20.1), (27, .own 239000), (29, .own 246000)] [(239000, .arr 3 (.int .i64) v0_26.1), (246000, .arr 3 (.int .i64) v0_27.1)] ?_
                                    refine zo ?_
                                    refine zS 3 [(10, .int .i64 v0_26.2.2), (12, .int .i64 v0_27.2.2), (27, .own 239000), (29, .own 246000), (242, .bool (!v0_20.1))] [(239000, .arr 3 (.int .i64) v0_26.1), (246000, .arr 3 (.int .i64) v0_27.1)] ?_
                                    rcases zI h with ⟨hb57, h⟩ | ⟨hb57, h⟩
                                    ·
                                      refine zT [(10, .int .i64 v0_26.2.2), (12, .int .i64 v0_27.2.2), (27, .own 239000), (29, .own 246000), (242, .bool true)] [(239000, .arr 3 (.int .i64) v0_26.1), (246000, .arr 3 (.int .i64) v0_27.1)] gt ?_
                                      refine zS 4 [(12, .int .i64 v0_27.2.2), (27, .own 239000), (29, .own 246000), (246, .bool (decide (v0_26.2.2 = 0)))] [(239000, .arr 3 (.int .i64) v0_26.1), (246000, .arr 3 (.int .i64) v0_27.1)] ?_
                                      rcases zI h with ⟨hb58, h⟩ | ⟨hb58, h⟩
                                      ·
                                        refine zT [(12, .int .i64 v0_27.2.2), (27, .own 239000), (29, .own 246000), (246, .bool true)] [(239000, .arr 3 (.int .i64) v0_26.1), (246000, .arr 3 (.int .i64) v0_27.1)] gt ?_
                                        refine zS 4 [(27, .own 239000), (29, .own 246000), (250, .bool (decide (v0_27.2.2 = 0)))] [(239000, .arr 3 (.int .i64) v0_26.1), (246000, .arr 3 (.int .i64) v0_27.1)] ?_
                                        rcases zI h with ⟨hb59, h⟩ | ⟨hb59, h⟩
                                        ·
                                          refine zT [(27, .own 239000), (29, .own 246000), (250, .bool true)] [(239000, .arr 3 (.int .i64) v0_26.1), (246000, .arr 3 (.int .i64) v0_27.1)] gt ?_
                                          refine zS 2 [(250, .bool true), (251, .own 239000), (252, .own 246000)] [(239000, .arr 3 (.int .i64) v0_26.1), (246000, .arr 3 (.int .i64) v0_27.1)] ?_
                                          obtain ⟨v0_28, hv60, h⟩ := Option.bind_eq_some_iff.1 h
                                          refine zG [239000, 246000] [] (hc_linealref01_SameInts v0_26.1 v0_27.1 hv60) [(250, .bool true), (253, .bool v0_28)] [] ?_
                                          refine zS 3 [(256, .bool (!v0_28))] [] ?_
                                          rcases zI h with ⟨hb61, h⟩ | ⟨hb61, h⟩
                                          ·
                                            refine zT [(256, .bool true)] [] gt ?_
                                            obtain ⟨v0_29, hv62, h⟩ := Option.bind_eq_some_iff.1 h
                                            refine zG [] [] (hc_lineallaw01_Awake hv62) [(256, .bool true), (257, .bool v0_29)] [] ?_
                                            refine zB [(6, .bool v0_29)] [] ?_
                                            refine AW.ret ?_
                                            obtain rfl := Option.some.inj h
                                            exact zR [] [] []
                                          ·
                                            refine zT [(256, .bool false)] [] gt ?_
                                            refine zB [(6, .bool false)] [] ?_
                                            refine AW.ret ?_
                                            obtain rfl := Option.some.inj h
                                            exact zR [] [] []
                                        ·
                                          refine zT [(27, .own 239000), (29, .own 246000), (250, .bool false)] [(239000, .arr 3 (.int .i64) v0_26.1), (246000, .arr 3 (.int .i64) v0_27.1)] gt ?_
                                          refine zS 4 [(250, .bool false), (254, .cv (undef))] [] ?_
                                          refine zB [(6, .bool false)] [] ?_
                                          refine AW.ret ?_
                                          obtain rfl := Option.some.inj h
                                          exact zR [] [] []
                                      ·
                                        refine zT [(12, .int .i64 v0_27.2.2), (27, .own 239000), (29, .own 246000), (246, .bool false)] [(239000, .arr 3 (.int .i64) v0_26.1), (246000, .arr 3 (.int .i64) v0_27.1)] gt ?_
                                        refine zS 6 [(250, .bool false), (251, .cv (undef)), (252, .cv (undef))] [] ?_
                                        refine zB [(6, .bool false)] [] ?_
                                        refine AW.ret ?_
                                        obtain rfl := Option.some.inj h
                                        exact zR [] [] []
                                    ·
                                      refine zT [(10, .int .i64 v0_26.2.2), (12, .int .i64 v0_27.2.2), (27, .own 239000), (29, .own 246000), (242, .bool false)] [(239000, .arr 3 (.int .i64) v0_26.1), (246000, .arr 3 (.int .i64) v0_27.1)] gt ?_
                                      refine zS 6 [(27, .own 239000), (29, .own 246000), (246, .bool false), (248, .cv (undef))] [(239000, .arr 3 (.int .i64) v0_26.1), (246000, .arr 3 (.int .i64) v0_27.1)] ?_
                                      refine zS 6 [(250, .bool false), (254, .cv (undef))] [] ?_
                                      refine zB [(6, .bool false)] [] ?_
                                      refine AW.ret ?_
                                      obtain rfl := Option.some.inj h
                                      exact zR [] [] []
                      · refine AW.seq ?_
                        refine zo ?_
                        refine zB [(2, .sl (.int .i64) word), (3, .bp 3 0), (4, .bp 4 0), (7, .own 66000), (9, .bp 9 0), (11, .bp 11 0), (92, .int .i64 (v0_11.1.length : Int)), (93, .int .i64 0)] [(3, .box 24 [.int .i64 s.1, .int .i64 s.2.1, .sl (.sl (.int .i64)) s.2.2.1, .sl (.sl (.int .i64)) s.2.2.2]), (4, .box 24 [.int .i64 t.1, .int .i64 t.2.1, .sl (.sl (.int .i64)) t.2.2.1, .sl (.sl (.int .i64)) t.2.2.2]), (9, .box 24 [.int .i64 v0_12.1, .int .i64 v0_12.2.1, .own 71000, .own 71001]), (11, .box 24 [.int .i64 v0_13.1, .int .i64 v0_13.2.1, .own 76000, .own 76001]), (66000, .arr 3 (.int .i64) v0_11.1), (71000, .arr 25 (.sl (.int .i64)) v0_12.2.2.1), (71001, .arr 25 (.sl (.int .i64)) v0_12.2.2.2.1), (76000, .arr 25 (.sl (.int .i64)) v0_13.2.2.1), (76001, .arr 25 (.sl (.int .i64)) v0_13.2.2.2.1)] ?_
                        refine AW.block ?_
                        obtain ⟨rv67, hw63, ho64⟩ := Option.bind_eq_some_iff.1 h
                        refine AW.loopO (linealtop_TopSpec_b1 s v0_11) (fun st1 => ⟨fr [(2, .sl (.int .i64) word), (3, .bp 3 0), (4, .bp 4 0), (7, .own 66000), (9, .bp 9 0), (11, .bp 11 0), (92, .int .i64 (v0_11.1.length : Int)), (93, .int .i64 st1)], hpGet [(3, .box 24 [.int .i64 s.1, .int .i64 s.2.1, .sl (.sl (.int .i64)) s.2.2.1, .sl (.sl (.int .i64)) s.2.2.2]), (4, .box 24 [.int .i64 t.1, .int .i64 t.2.1, .sl (.sl (.int .i64)) t.2.2.1, .sl (.sl (.int .i64)) t.2.2.2]), (9, .box 24 [.int .i64 v0_12.1, .int .i64 v0_12.2.1, .own 71000, .own 71001]), (11, .box 24 [.int .i64 v0_13.1, .int .i64 v0_13.2.1, .own 76000, .own 76001]), (66000, .arr 3 (.int .i64) v0_11.1), (71000, .arr 25 (.sl (.int .i64)) v0_12.2.2.1), (71001, .arr 25 (.sl (.int .i64)) v0_12.2.2.2.1), (76000, .arr 25 (.sl (.int .i64)) v0_13.2.2.1), (76001, .arr 25 (.sl (.int .i64)) v0_13.2.2.2.1)], gt⟩) 0 hw63 (zL [] [] []) ?_
                        intro st1 x66 h hd65
                        unfold linealtop_TopSpec_b1 at h
                        refine zo ?_
                        refine zB [(2, .sl (.int .i64) word), (3, .bp 3 0), (4, .bp 4 0), (7, .own 66000), (9, .bp 9 0), (11, .bp 11 0), (92, .int .i64 (v0_11.1.length : Int)), (93, .int .i64 st1), (94, .bool (decide (st1 < (v0_11.1.length : Int))))] [(3, .box 24 [.int .i64 s.1, .int .i64 s.2.1, .sl (.sl (.int .i64)) s.2.2.1, .sl (.sl (.int .i64)) s.2.2.2]), (4, .box 24 [.int .i64 t.1, .int .i64 t.2.1, .sl (.sl (.int .i64)) t.2.2.1, .sl (.sl (.int .i64)) t.2.2.2]), (9, .box 24 [.int .i64 v0_12.1, .int .i64 v0_12.2.1, .own 71000, .own 71001]), (11, .box 24 [.int .i64 v0_13.1, .int .i64 v0_13.2.1, .own 76000, .own 76001]), (66000, .arr 3 (.int .i64) v0_11.1), (71000, .arr 25 (.sl (.int .i64)) v0_12.2.2.1), (71001, .arr 25 (.sl (.int .i64)) v0_12.2.2.2.1), (76000, .arr 25 (.sl (.int .i64)) v0_13.2.2.1), (76001, .arr 25 (.sl (.int .i64)) v0_13.2.2.2.1)] ?_
                        refine AW.seq ?_
                        refine zQ h (fun hb68 h => ?_) (fun hb68 h => ?_)
                        ·
                          refine zk ?_
                          refine AW.have1 (fun _ : Unit => linealtop_TopSpec_k2 st1 = some x66) (fun _ => ⟨fr [(2, .sl (.int .i64) word), (3, .bp 3 0), (4, .bp 4 0), (7, .own 66000), (9, .bp 9 0), (11, .bp 11 0), (92, .int .i64 (v0_11.1.length : Int)), (93, .int .i64 st1)], hpGet [(3, .box 24 [.int .i64 s.1, .int .i64 s.2.1, .sl (.sl (.int .i64)) s.2.2.1, .sl (.sl (.int .i64)) s.2.2.2]), (4, .box 24 [.int .i64 t.1, .int .i64 t.2.1, .sl (.sl (.int .i64)) t.2.2.1, .sl (.sl (.int .i64)) t.2.2.2]), (9, .box 24 [.int .i64 v0_12.1, .int .i64 v0_12.2.1, .own 71000, .own 71001]), (11, .box 24 [.int .i64 v0_13.1, .int .i64 v0_13.2.1, .own 76000, .own 76001]), (66000, .arr 3 (.int .i64) v0_11.1), (71000, .arr 25 (.sl (.int .i64)) v0_12.2.2.1), (71001, .arr 25 (.sl (.int .i64)) v0_12.2.2.2.1), (76000, .arr 25 (.sl (.int .i64)) v0_13.2.2.1), (76001, .arr 25 (.sl (.int .i64)) v0_13.2.2.2.1)], gt⟩) (fun _ h => ?_) (fun hk_linealtop_TopSpec_k2 => ?_)
                          · unfold linealtop_TopSpec_k2 at h
                            refine AW.ops ?_
                            obtain ⟨c69, h⟩ := ck_some.1 h
                            refine zA [(2, .sl (.int .i64) word), (3, .bp 3 0), (4, .bp 4 0), (7, .own 66000), (9, .bp 9 0), (11, .bp 11 0), (92, .int .i64 (v0_11.1.length : Int)), (93, .int .i64 (st1 + 1))] [(3, .box 24 [.int .i64 s.1, .int .i64 s.2.1, .sl (.sl (.int .i64)) s.2.2.1, .sl (.sl (.int .i64)) s.2.2.2]), (4, .box 24 [.int .i64 t.1, .int .i64 t.2.1, .sl (.sl (.int .i64)) t.2.2.1, .sl (.sl (.int .i64)) t.2.2.2]), (9, .box 24 [.int .i64 v0_12.1, .int .i64 v0_12.2.1, .own 71000, .own 71001]), (11, .box 24 [.int .i64 v0_13.1, .int .i64 v0_13.2.1, .own 76000, .own 76001]), (66000, .arr 3 (.int .i64) v0_11.1), (71000, .arr 25 (.sl (.int .i64)) v0_12.2.2.1), (71001, .arr 25 (.sl (.int .i64)) v0_12.2.2.2.1), (76000, .arr 25 (.sl (.int .i64)) v0_13.2.2.1), (76001, .arr 25 (.sl (.int .i64)) v0_13.2.2.2.1)] ?_
                            obtain rfl := Option.some.inj h
                            exact ⟨_, rfl, zL [] [] []⟩
                          · refine AW.seq ?_
                            refine AW.block ?_
                            refine zo ?_
                            refine zB [(2, .sl (.int .i64) word), (3, .bp 3 0), (4, .bp 4 0), (7, .own 66000), (9, .bp 9 0), (11, .bp 11 0), (13, .int .i64 st1), (92, .int .i64 (v0_11.1.length : Int)), (93, .int .i64 st1)] [(3, .box 24 [.int .i64 s.1, .int .i64 s.2.1, .sl (.sl (.int .i64)) s.2.2.1, .sl (.sl (.int .i64)) s.2.2.2]), (4, .box 24 [.int .i64 t.1, .int .i64 t.2.1, .sl (.sl (.int .i64)) t.2.2.1, .sl (.sl (.int .i64)) t.2.2.2]), (9, .box 24 [.int .i64 v0_12.1, .int .i64 v0_12.2.1, .own 71000, .own 71001]), (11, .box 24 [.int .i64 v0_13.1, .int .i64 v0_13.2.1, .own 76000, .own 76001]), (66000, .arr 3 (.int .i64) v0_11.1), (71000, .arr 25 (.sl (.int .i64)) v0_12.2.2.1), (71001, .arr 25 (.sl (.int .i64)) v0_12.2.2.2.1), (76000, .arr 25 (.sl (.int .i64)) v0_13.2.2.1), (76001, .arr 25 (.sl (.int .i64)) v0_13.2.2.2.1)] ?_
                            refine zo ?_
                            refine zB [(2, .sl (.int .i64) word), (3, .bp 3 0), (4, .bp 4 0), (7, .own 66000), (9, .bp 9 0), (11, .bp 11 0), (13, .int .i64 st1), (92, .int .i64 (v0_11.1.length : Int)), (93, .int .i64 st1), (96, .int .i64 st1), (97, .int .i64 0)] [(3, .box 24 [.int .i64 s.1, .int .i64 s.2.1, .sl (.sl (.int .i64)) s.2.2.1, .sl (.sl (.int .i64)) s.2.2.2]), (4, .box 24 [.int .i64 t.1, .int .i64 t.2.1, .sl (.sl (.int .i64)) t.2.2.1, .sl (.sl (.int .i64)) t.2.2.2]), (9, .box 24 [.int .i64 v0_12.1, .int .i64 v0_12.2.1, .own 71000, .own 71001]), (11, .box 24 [.int .i64 v0_13.1, .int .i64 v0_13.2.1, .own 76000, .own 76001]), (66000, .arr 3 (.int .i64) v0_11.1), (71000, .arr 25 (.sl (.int .i64)) v0_12.2.2.1), (71001, .arr 25 (.sl (.int .i64)) v0_12.2.2.2.1), (76000, .arr 25 (.sl (.int .i64)) v0_13.2.2.1), (76001, .arr 25 (.sl (.int .i64)) v0_13.2.2.2.1)] ?_
                            refine AW.block ?_
                            obtain ⟨rv74, hw70, ho71⟩ := Option.bind_eq_some_iff.1 h
                            refine AW.loopO (linealtop_TopSpec_b2 s v0_11 st1) (fun st2 => ⟨fr [(2, .sl (.int .i64) word), (3, .bp 3 0), (4, .bp 4 0), (7, .own 66000), (9, .bp 9 0), (11, .bp 11 0), (13, .int .i64 st1), (92, .int .i64 (v0_11.1.length : Int)), (93, .int .i64 st1), (96, .int .i64 st1), (97, .int .i64 st2)], hpGet [(3, .box 24 [.int .i64 s.1, .int .i64 s.2.1, .sl (.sl (.int .i64)) s.2.2.1, .sl (.sl (.int .i64)) s.2.2.2]), (4, .box 24 [.int .i64 t.1, .int .i64 t.2.1, .sl (.sl (.int .i64)) t.2.2.1, .sl (.sl (.int .i64)) t.2.2.2]), (9, .box 24 [.int .i64 v0_12.1, .int .i64 v0_12.2.1, .own 71000, .own 71001]), (11, .box 24 [.int .i64 v0_13.1, .int .i64 v0_13.2.1, .own 76000, .own 76001]), (66000, .arr 3 (.int .i64) v0_11.1), (71000, .arr 25 (.sl (.int .i64)) v0_12.2.2.1), (71001, .arr 25 (.sl (.int .i64)) v0_12.2.2.2.1), (76000, .arr 25 (.sl (.int .i64)) v0_13.2.2.1), (76001, .arr 25 (.sl (.int .i64)) v0_13.2.2.2.1)], gt⟩) 0 hw70 (zL [] [] []) ?_
                            intro st2 x73 h hd72
                            unfold linealtop_TopSpec_b2 at h
                            refine zo ?_
                            refine zB [(2, .sl (.int .i64) word), (3, .bp 3 0), (4, .bp 4 0), (7, .own 66000), (9, .bp 9 0), (11, .bp 11 0), (13, .int .i64 st1), (92, .int .i64 (v0_11.1.length : Int)), (93, .int .i64 st1), (96, .int .i64 st1), (97, .int .i64 st2), (98, .bool (decide (st2 < st1)))] [(3, .box 24 [.int .i64 s.1, .int .i64 s.2.1, .sl (.sl (.int .i64)) s.2.2.1, .sl (.sl (.int .i64)) s.2.2.2]), (4, .box 24 [.int .i64 t.1, .int .i64 t.2.1, .sl (.sl (.int .i64)) t.2.2.1, .sl (.sl (.int .i64)) t.2.2.2]), (9, .box 24 [.int .i64 v0_12.1, .int .i64 v0_12.2.1, .own 71000, .own 71001]), (11, .box 24 [.int .i64 v0_13.1, .int .i64 v0_13.2.1, .own 76000, .own 76001]), (66000, .arr 3 (.int .i64) v0_11.1), (71000, .arr 25 (.sl (.int .i64)) v0_12.2.2.1), (71001, .arr 25 (.sl (.int .i64)) v0_12.2.2.2.1), (76000, .arr 25 (.sl (.int .i64)) v0_13.2.2.1), (76001, .arr 25 (.sl (.int .i64)) v0_13.2.2.2.1)] ?_
                            refine AW.seq ?_
                            refine zQ h (fun hb75 h => ?_) (fun hb75 h => ?_)
                            ·
                              refine zk ?_
                              refine AW.seq ?_
                              refine AW.block ?_
                              refine zo ?_
                              refine zB [(2, .sl (.int .i64) word), (3, .bp 3 0), (4, .bp 4 0), (7, .own 66000), (9, .bp 9 0), (11, .bp 11 0), (13, .int .i64 st1), (14, .int .i64 st2), (92, .int .i64 (v0_11.1.length : Int)), (93, .int .i64 st1), (96, .int .i64 st1), (97, .int .i64 st2)] [(3, .box 24 [.int .i64 s.1, .int .i64 s.2.1, .sl (.sl (.int .i64)) s.2.2.1, .sl (.sl (.int .i64)) s.2.2.2]), (4, .box 24 [.int .i64 t.1, .int .i64 t.2.1, .sl (.sl (.int .i64)) t.2.2.1, .sl (.sl (.int .i64)) t.2.2.2]), (9, .box 24 [.int .i64 v0_12.1, .int .i64 v0_12.2.1, .own 71000, .own 71001]), (11, .box 24 [.int .i64 v0_13.1, .int .i64 v0_13.2.1, .own 76000, .own 76001]), (66000, .arr 3 (.int .i64) v0_11.1), (71000, .arr 25 (.sl (.int .i64)) v0_12.2.2.1), (71001, .arr 25 (.sl (.int .i64)) v0_12.2.2.2.1), (76000, .arr 25 (.sl (.int .i64)) v0_13.2.2.1), (76001, .arr 25 (.sl (.int .i64)) v0_13.2.2.2.1)] ?_
                              refine zo ?_
                              refine zS 3 [(2, .sl (.int .i64) word), (3, .bp 3 0), (4, .bp 4 0), (7, .own 66000), (9, .bp 9 0), (11, .bp 11 0), (13, .int .i64 st1), (14, .int .i64 st2), (92, .int .i64 (v0_11.1.length : Int)), (93, .int .i64 st1), (96, .int .i64 st1), (97, .int .i64 st2), (101, .agg [.int .i64 s.1, .int .i64 s.2.1, .sl (.sl (.int .i64)) s.2.2.1, .sl (.sl (.int .i64)) s.2.2.2]), (102, .int .i64 st1), (103, .int .i64 st2)] [(3, .box 24 [.int .i64 s.1, .int .i64 s.2.1, .sl (.sl (.int .i64)) s.2.2.1, .sl (.sl (.int .i64)) s.2.2.2]), (4, .box 24 [.int .i64 t.1, .int .i64 t.2.1, .sl (.sl (.int .i64)) t.2.2.1, .sl (.sl (.int .i64)) t.2.2.2]), (9, .box 24 [.int .i64 v0_12.1, .int .i64 v0_12.2.1, .own 71000, .own 71001]), (11, .box 24 [.int .i64 v0_13.1, .int .i64 v0_13.2.1, .own 76000, .own 76001]), (66000, .arr 3 (.int .i64) v0_11.1), (71000, .arr 25 (.sl (.int .i64)) v0_12.2.2.1), (71001, .arr 25 (.sl (.int .i64)) v0_12.2.2.2.1), (76000, .arr 25 (.sl (.int .i64)) v0_13.2.2.1), (76001, .arr 25 (.sl (.int .i64)) v0_13.2.2.2.1)] ?_
                              obtain ⟨v0_15, hv76, h⟩ := Option.bind_eq_some_iff.1 h
                              refine zC [] [] (hc_spec_Same s st1 st2 hv76) [(2, .sl (.int .i64) word), (3, .bp 3 0), (4, .bp 4 0), (7, .own 66000), (9, .bp 9 0), (11, .bp 11 0), (13, .int .i64 st1), (14, .int .i64 st2), (92, .int .i64 (v0_11.1.length : Int)), (93, .int .i64 st1), (96, .int .i64 st1), (97, .int .i64 st2), (104, .tup [.bool v0_15.1, .int .i64 v0_15.2])] [(3, .box 24 [.int .i64 s.1, .int .i64 s.2.1, .sl (.sl (.int .i64)) s.2.2.1, .sl (.sl (.int .i64)) s.2.2.2]), (4, .box 24 [.int .i64 t.1, .int .i64 t.2.1, .sl (.sl (.int .i64)) t.2.2.1, .sl (.sl (.int .i64)) t.2.2.2]), (9, .box 24 [.int .i64 v0_12.1, .int .i64 v0_12.2.1, .own 71000, .own 71001]), (11, .box 24 [.int .i64 v0_13.1, .int .i64 v0_13.2.1, .own 76000, .own 76001]), (66000, .arr 3 (.int .i64) v0_11.1), (71000, .arr 25 (.sl (.int .i64)) v0_12.2.2.1), (71001, .arr 25 (.sl (.int .i64)) v0_12.2.2.2.1), (76000, .arr 25 (.sl (.int .i64)) v0_13.2.2.1), (76001, .arr 25 (.sl (.int .i64)) v0_13.2.2.2.1)] ?_
                              refine zB [(2, .sl (.int .i64) word), (3, .bp 3 0), (4, .bp 4 0), (7, .own 66000), (9, .bp 9 0), (11, .bp 11 0), (13, .int .i64 st1), (14, .int .i64 st2), (15, .bool v0_15.1), (16, .int .i64 v0_15.2), (92, .int .i64 (v0_11.1.length : Int)), (93, .int .i64 st1), (96, .int .i64 st1), (97, .int .i64 st2)] [(3, .box 24 [.int .i64 s.1, .int .i64 s.2.1, .sl (.sl (.int .i64)) s.2.2.1, .sl (.sl (.int .i64)) s.2.2.2]), (4, .box 24 [.int .i64 t.1, .int .i64 t.2.1, .sl (.sl (.int .i64)) t.2.2.1, .sl (.sl (.int .i64)) t.2.2.2]), (9, .box 24 [.int .i64 v0_12.1, .int .i64 v0_12.2.1, .own 71000, .own 71001]), (11, .box 24 [.int .i64 v0_13.1, .int .i64 v0_13.2.1, .own 76000, .own 76001]), (66000, .arr 3 (.int .i64) v0_11.1), (71000, .arr 25 (.sl (.int .i64)) v0_12.2.2.1), (71001, .arr 25 (.sl (.int .i64)) v0_12.2.2.2.1), (76000, .arr 25 (.sl (.int .i64)) v0_13.2.2.1), (76001, .arr 25 (.sl (.int .i64)) v0_13.2.2.2.1)] ?_
                              refine zo ?_
                              refine zS 3 [(2, .sl (.int .i64) word), (3, .bp 3 0), (4, .bp 4 0), (7, .own 66000), (9, .bp 9 0), (11, .bp 11 0), (13, .int .i64 st1), (14, .int .i64 st2), (15, .bool v0_15.1), (16, .int .i64 v0_15.2), (92, .int .i64 (v0_11.1.length : Int)), (93, .int .i64 st1), (96, .int .i64 st1), (97, .int .i64 st2), (108, .agg [.int .i64 s.1, .int .i64 s.2.1, .sl (.sl (.int .i64)) s.2.2.1, .sl (.sl (.int .i64)) s.2.2.2]), (109, .int .i64 st1), (110, .int .i64 st2)] [(3, .box 24 [.int .i64 s.1, .int .i64 s.2.1, .sl (.sl (.int .i64)) s.2.2.1, .sl (.sl (.int .i64)) s.2.2.2]), (4, .box 24 [.int .i64 t.1, .int .i64 t.2.1, .sl (.sl (.int .i64)) t.2.2.1, .sl (.sl (.int .i64)) t.2.2.2]), (9, .box 24 [.int .i64 v0_12.1, .int .i64 v0_12.2.1, .own 71000, .own 71001]), (11, .box 24 [.int .i64 v0_13.1, .int .i64 v0_13.2.1, .own 76000, .own 76001]), (66000, .arr 3 (.int .i64) v0_11.1), (71000, .arr 25 (.sl (.int .i64)) v0_12.2.2.1), (71001, .arr 25 (.sl (.int .i64)) v0_12.2.2.2.1), (76000, .arr 25 (.sl (.int .i64)) v0_13.2.2.1), (76001, .arr 25 (.sl (.int .i64)) v0_13.2.2.2.1)] ?_
                              obtain ⟨v0_16, hv77, h⟩ := Option.bind_eq_some_iff.1 h
                              refine zC [] [] (hc_spec_Word s st1 st2 hv77) [(2, .sl (.int .i64) word), (3, .bp 3 0), (4, .bp 4 0), (7, .own 66000), (9, .bp 9 0), (11, .bp 11 0), (13, .int .i64 st1), (14, .int .i64 st2), (15, .bool v0_15.1), (16, .int .i64 v0_15.2), (92, .int .i64 (v0_11.1.length : Int)), (93, .int .i64 st1), (96, .int .i64 st1), (97, .int .i64 st2), (111, .tup [.own 121000, .int .i64 v0_16.2])] [(3, .box 24 [.int .i64 s.1, .int .i64 s.2.1, .sl (.sl (.int .i64)) s.2.2.1, .sl (.sl (.int .i64)) s.2.2.2]), (4, .box 24 [.int .i64 t.1, .int .i64 t.2.1, .sl (.sl (.int .i64)) t.2.2.1, .sl (.sl (.int .i64)) t.2.2.2]), (9, .box 24 [.int .i64 v0_12.1, .int .i64 v0_12.2.1, .own 71000, .own 71001]), (11, .box 24 [.int .i64 v0_13.1, .int .i64 v0_13.2.1, .own 76000, .own 76001]), (66000, .arr 3 (.int .i64) v0_11.1), (71000, .arr 25 (.sl (.int .i64)) v0_12.2.2.1), (71001, .arr 25 (.sl (.int .i64)) v0_12.2.2.2.1), (76000, .arr 25 (.sl (.int .i64)) v0_13.2.2.1), (76001, .arr 25 (.sl (.int .i64)) v0_13.2.2.2.1), (121000, .arr 3 (.int .i64) v0_16.1)] ?_
                              refine zB [(2, .sl (.int .i64) word), (3, .bp 3 0), (4, .bp 4 0), (7, .own 66000), (9, .bp 9 0), (11, .bp 11 0), (13, .int .i64 st1), (14, .int .i64 st2), (15, .bool v0_15.1), (16, .int .i64 v0_15.2), (17, .own 121000), (18, .int .i64 v0_16.2), (92, .int .i64 (v0_11.1.length : Int)), (93, .int .i64 st1), (96, .int .i64 st1), (97, .int .i64 st2)] [(3, .box 24 [.int .i64 s.1, .int .i64 s.2.1, .sl (.sl (.int .i64)) s.2.2.1, .sl (.sl (.int .i64)) s.2.2.2]), (4, .box 24 [.int .i64 t.1, .int .i64 t.2.1, .sl (.sl (.int .i64)) t.2.2.1, .sl (.sl (.int .i64)) t.2.2.2]), (9, .box 24 [.int .i64 v0_12.1, .int .i64 v0_12.2.1, .own 71000, .own 71001]), (11, .box 24 [.int .i64 v0_13.1, .int .i64 v0_13.2.1, .own 76000, .own 76001]), (66000, .arr 3 (.int .i64) v0_11.1), (71000, .arr 25 (.sl (.int .i64)) v0_12.2.2.1), (71001, .arr 25 (.sl (.int .i64)) v0_12.2.2.2.1), (76000, .arr 25 (.sl (.int .i64)) v0_13.2.2.1), (76001, .arr 25 (.sl (.int .i64)) v0_13.2.2.2.1), (121000, .arr 3 (.int .i64) v0_16.1)] ?_
                              refine zo ?_
                              refine zS 4 [(2, .sl (.int .i64) word), (3, .bp 3 0), (4, .bp 4 0), (7, .own 66000), (9, .bp 9 0), (11, .bp 11 0), (13, .int .i64 st1), (14, .int .i64 st2), (15, .bool v0_15.1), (16, .int .i64 v0_15.2), (18, .int .i64 v0_16.2), (92, .int .i64 (v0_11.1.length : Int)), (93, .int .i64 st1), (96, .int .i64 st1), (97, .int .i64 st2), (115, .agg [.int .i64 s.1, .int .i64 s.2.1, .sl (.sl (.int .i64)) s.2.2.1, .sl (.sl (.int .i64)) s.2.2.2]), (116, .int .i64 st1), (117, .int .i64 st2), (118, .own 121000)] [(3, .box 24 [.int .i64 s.1, .int .i64 s.2.1, .sl (.sl (.int .i64)) s.2.2.1, .sl (.sl (.int .i64)) s.2.2.2]), (4, .box 24 [.int .i64 t.1, .int .i64 t.2.1, .sl (.sl (.int .i64)) t.2.2.1, .sl (.sl (.int .i64)) t.2.2.2]), (9, .box 24 [.int .i64 v0_12.1, .int .i64 v0_12.2.1, .own 71000, .own 71001]), (11, .box 24 [.int .i64 v0_13.1, .int .i64 v0_13.2.1, .own 76000, .own 76001]), (66000, .arr 3 (.int .i64) v0_11.1), (71000, .arr 25 (.sl (.int .i64)) v0_12.2.2.1), (71001, .arr 25 (.sl (.int .i64)) v0_12.2.2.2.1), (76000, .arr 25 (.sl (.int .i64)) v0_13.2.2.1), (76001, .arr 25 (.sl (.int .i64)) v0_13.2.2.2.1), (121000, .arr 3 (.int .i64) v0_16.1)] ?_
                              obtain ⟨v0_17, hv78, h⟩ := Option.bind_eq_some_iff.1 h
                              refine zC [121000] [] (hc_spec_Tells s st1 st2 v0_16.1 hv78) [(2, .sl (.int .i64) word), (3, .bp 3 0), (4, .bp 4 0), (7, .own 66000), (9, .bp 9 0), (11, .bp 11 0), (13, .int .i64 st1), (14, .int .i64 st2), (15, .bool v0_15.1), (16, .int .i64 v0_15.2), (18, .int .i64 v0_16.2), (92, .int .i64 (v0_11.1.length : Int)), (93, .int .i64 st1), (96, .int .i64 st1), (97, .int .i64 st2), (119, .tup [.bool v0_17.1, .int .i64 v0_17.2])] [(3, .box 24 [.int .i64 s.1, .int .i64 s.2.1, .sl (.sl (.int .i64)) s.2.2.1, .sl (.sl (.int .i64)) s.2.2.2]), (4, .box 24 [.int .i64 t.1, .int .i64 t.2.1, .sl (.sl (.int .i64)) t.2.2.1, .sl (.sl (.int .i64)) t.2.2.2]), (9, .box 24 [.int .i64 v0_12.1, .int .i64 v0_12.2.1, .own 71000, .own 71001]), (11, .box 24 [.int .i64 v0_13.1, .int .i64 v0_13.2.1, .own 76000, .own 76001]), (66000, .arr 3 (.int .i64) v0_11.1), (71000, .arr 25 (.sl (.int .i64)) v0_12.2.2.1), (71001, .arr 25 (.sl (.int .i64)) v0_12.2.2.2.1), (76000, .arr 25 (.sl (.int .i64)) v0_13.2.2.1), (76001, .arr 25 (.sl (.int .i64)) v0_13.2.2.2.1)] ?_
                              refine zB [(2, .sl (.int .i64) word), (3, .bp 3 0), (4, .bp 4 0), (7, .own 66000), (9, .bp 9 0), (11, .bp 11 0), (13, .int .i64 st1), (14, .int .i64 st2), (15, .bool v0_15.1), (16, .int .i64 v0_15.2), (18, .int .i64 v0_16.2), (19, .bool v0_17.1), (20, .int .i64 v0_17.2), (92, .int .i64 (v0_11.1.length : Int)), (93, .int .i64 st1), (96, .int .i64 st1), (97, .int .i64 st2)] [(3, .box 24 [.int .i64 s.1, .int .i64 s.2.1, .sl (.sl (.int .i64)) s.2.2.1, .sl (.sl (.int .i64)) s.2.2.2]), (4, .box 24 [.int .i64 t.1, .int .i64 t.2.1, .sl (.sl (.int .i64)) t.2.2.1, .sl (.sl (.int .i64)) t.2.2.2]), (9, .box 24 [.int .i64 v0_12.1, .int .i64 v0_12.2.1, .own 71000, .own 71001]), (11, .box 24 [.int .i64 v0_13.1, .int .i64 v0_13.2.1, .own 76000, .own 76001]), (66000, .arr 3 (.int .i64) v0_11.1), (71000, .arr 25 (.sl (.int .i64)) v0_12.2.2.1), (71001, .arr 25 (.sl (.int .i64)) v0_12.2.2.2.1), (76000, .arr 25 (.sl (.int .i64)) v0_13.2.2.1), (76001, .arr 25 (.sl (.int .i64)) v0_13.2.2.2.1)] ?_
                              refine AW.seq ?_
                              refine AW.draw tab_ok mixed_ok [] [] (by decide) (lex_fast (by kernel_rfl)) ?_
                              refine adops_cut 3 (fun K' hK79 => ?_)
                              try dsimp only [List.drop_succ_cons, List.drop_zero, List.take_succ_cons, List.take_zero]
                              simp only [go_sem, hb2, hb6, hb10, hb14, hb18, hb23, hb25, hb27, hb29, hb32, hb68, hb75]
                              repeat (with_reducible refine And.intro (by first | assumption | rfl | omega | trivial | (unfold maxLen; omega)) ?_)
                              refine hK79 _ ?_
                              rcases zI h with ⟨hb80, h⟩ | ⟨hb80, h⟩
                              ·
                                simp only [hb80]
                                refine adops_cut 6 (fun K' hK81 => ?_)
                                try dsimp only [List.drop_succ_cons, List.drop_zero, List.take_succ_cons, List.take_zero]
                                simp only [go_sem, hb2, hb6, hb10, hb14, hb18, hb23, hb25, hb27, hb29, hb32, hb68, hb75, hb80]
                                repeat (with_reducible refine And.intro (by first | assumption | rfl | omega | trivial | (unfold maxLen; omega)) ?_)
                                refine hK81 _ ?_
                                refine adops_cut 4 (fun K' hK82 => ?_)
                                try dsimp only [List.drop_succ_cons, List.drop_zero, List.take_succ_cons, List.take_zero]
                                simp only [go_sem, hb2, hb6, hb10, hb14, hb18, hb23, hb25, hb27, hb29, hb32, hb68, hb75, hb80]
                                repeat (with_reducible refine And.intro (by first | assumption | rfl | omega | trivial | (unfold maxLen; omega)) ?_)
                                refine hK82 _ ?_
                                refine adops_cut 4 (fun K' hK83 => ?_)
                                try dsimp only [List.drop_succ_cons, List.drop_zero, List.take_succ_cons, List.take_zero]
                                simp only [go_sem, hb2, hb6, hb10, hb14, hb18, hb23, hb25, hb27, hb29, hb32, hb68, hb75, hb80]
                                repeat (with_reducible refine And.intro (by first | assumption | rfl | omega | trivial | (unfold maxLen; omega)) ?_)
                                refine hK83 _ ?_
                                refine adops_cut 6 (fun K' hK84 => ?_)
                                try dsimp only [List.drop_succ_cons, List.drop_zero, List.take_succ_cons, List.take_zero]
                                simp only [go_sem, hb2, hb6, hb10, hb14, hb18, hb23, hb25, hb27, hb29, hb32, hb68, hb75, hb80]
                                repeat (with_reducible refine And.intro (by first | assumption | rfl | omega | trivial | (unfold maxLen; omega)) ?_)
                                refine hK84 _ ?_
                                refine adops_cut 6 (fun K' hK85 => ?_)
                                try dsimp only [List.drop_succ_cons, List.drop_zero, List.take_succ_cons, List.take_zero]
                                simp only [go_sem, hb2, hb6, hb10, hb14, hb18, hb23, hb25, hb27, hb29, hb32, hb68, hb75, hb80]
                                repeat (with_reducible refine And.intro (by first | assumption | rfl | omega | trivial | (unfold maxLen; omega)) ?_)
                                refine hK85 _ ?_
                                refine adops_cut 1 (fun K' hK86 => ?_)
                                try dsimp only [List.drop_succ_cons, List.drop_zero, List.take_succ_cons, List.take_zero]
                                simp only [go_sem, hb2, hb6, hb10, hb14, hb18, hb23, hb25, hb27, hb29, hb32, hb68, hb75, hb80]
                                repeat (with_reducible refine And.intro (by first | assumption | rfl | omega | trivial | (unfold maxLen; omega)) ?_)
                                refine hK86 _ ?_
                                refine adops_nil ?_
                                refine athen_n ?_
                                refine zV [(2, .sl (.int .i64) word), (3, .bp 3 0), (4, .bp 4 0), (7, .own 66000), (9, .bp 9 0), (11, .bp 11 0), (13, .int .i64 st1), (92, .int .i64 (v0_11.1.length : Int)), (93, .int .i64 st1), (96, .int .i64 st1), (97, .int .i64 st2), (151, .bool true)] [(3, .box 24 [.int .i64 s.1, .int .i64 s.2.1, .sl (.sl (.int .i64)) s.2.2.1, .sl (.sl (.int .i64)) s.2.2.2]), (4, .box 24 [.int .i64 t.1, .int .i64 t.2.1, .sl (.sl (.int .i64)) t.2.2.1, .sl (.sl (.int .i64)) t.2.2.2]), (9, .box 24 [.int .i64 v0_12.1, .int .i64 v0_12.2.1, .own 71000, .own 71001]), (11, .box 24 [.int .i64 v0_13.1, .int .i64 v0_13.2.1, .own 76000, .own 76001]), (66000, .arr 3 (.int .i64) v0_11.1), (71000, .arr 25 (.sl (.int .i64)) v0_12.2.2.1), (71001, .arr 25 (.sl (.int .i64)) v0_12.2.2.2.1), (76000, .arr 25 (.sl (.int .i64)) v0_13.2.2.1), (76001, .arr 25 (.sl (.int .i64)) v0_13.2.2.2.1)] gt ?_
                                refine AW.cond (b := true) rfl (fun _ => ?_) (fun hb87 => by cases hb87)
                                refine zo ?_
                                refine zB [(6, .bool false)] [] ?_
                                refine AW.ret ?_
                                refine ablock_r ?_
                                refine athen_r ?_
                                obtain rfl := Option.some.inj h
                                rw [← hd72 _ rfl] at ho71
                                have h := ho71
                                try simp only at h
                                refine athen_r ?_
                                refine ablock_r ?_
                                refine ablock_r ?_
                                refine athen_r ?_
                                obtain rfl := Option.some.inj h
                                rw [← hd65 _ rfl] at ho64
                                have h := ho64
                                try simp only at h
                                refine athen_r ?_
                                refine ablock_r ?_
                                refine athen_r ?_
                                obtain rfl := Option.some.inj h
                                exact zR [] [] []
                              ·
                                simp only [hb80]
                                refine adops_cut 4 (fun K' hK88 => ?_)
                                try dsimp only [List.drop_succ_cons, List.drop_zero, List.take_succ_cons, List.take_zero]
                                simp only [go_sem, hb2, hb6, hb10, hb14, hb18, hb23, hb25, hb27, hb29, hb32, hb68, hb75, hb80]
                                repeat (with_reducible refine And.intro (by first | assumption | rfl | omega | trivial | (unfold maxLen; omega)) ?_)
                                refine hK88 _ ?_
                                rcases zI h with ⟨hb89, h⟩ | ⟨hb89, h⟩
                                ·
                                  simp only [hb89]
                                  refine adops_cut 4 (fun K' hK90 => ?_)
                                  try dsimp only [List.drop_succ_cons, List.drop_zero, List.take_succ_cons, List.take_zero]
                                  simp only [go_sem, hb2, hb6, hb10, hb14, hb18, hb23, hb25, hb27, hb29, hb32, hb68, hb75, hb80, hb89]
                                  repeat (with_reducible refine And.intro (by first | assumption | rfl | omega | trivial | (unfold maxLen; omega)) ?_)
                                  refine hK90 _ ?_
                                  refine adops_cut 4 (fun K' hK91 => ?_)
                                  try dsimp only [List.drop_succ_cons, List.drop_zero, List.take_succ_cons, List.take_zero]
                                  simp only [go_sem, hb2, hb6, hb10, hb14, hb18, hb23, hb25, hb27, hb29, hb32, hb68, hb75, hb80, hb89]
                                  repeat (with_reducible refine And.intro (by first | assumption | rfl | omega | trivial | (unfold maxLen; omega)) ?_)
                                  refine hK91 _ ?_
                                  refine adops_cut 6 (fun K' hK92 => ?_)
                                  try dsimp only [List.drop_succ_cons, List.drop_zero, List.take_succ_cons, List.take_zero]
                                  simp only [go_sem, hb2, hb6, hb10, hb14, hb18, hb23, hb25, hb27, hb29, hb32, hb68, hb75, hb80, hb89]
                                  repeat (with_reducible refine And.intro (by first | assumption | rfl | omega | trivial | (unfold maxLen; omega)) ?_)
                                  refine hK92 _ ?_
                                  refine adops_cut 6 (fun K' hK93 => ?_)
                                  try dsimp only [List.drop_succ_cons, List.drop_zero, List.take_succ_cons, List.take_zero]
                                  simp only [go_sem, hb2, hb6, hb10, hb14, hb18, hb23, hb25, hb27, hb29, hb32, hb68, hb75, hb80, hb89]
                                  repeat (with_reducible refine And.intro (by first | assumption | rfl | omega | trivial | (unfold maxLen; omega)) ?_)
                                  refine hK93 _ ?_
                                  refine adops_cut 3 (fun K' hK94 => ?_)
                                  try dsimp only [List.drop_succ_cons, List.drop_zero, List.take_succ_cons, List.take_zero]
                                  simp only [go_sem, hb2, hb6, hb10, hb14, hb18, hb23, hb25, hb27, hb29, hb32, hb68, hb75, hb80, hb89]
                                  repeat (with_reducible refine And.intro (by first | assumption | rfl | omega | trivial | (unfold maxLen; omega)) ?_)
                                  refine hK94 _ ?_
                                  refine adops_nil ?_
                                  refine athen_n ?_
                                  refine zV [(2, .sl (.int .i64) word), (3, .bp 3 0), (4, .bp 4 0), (7, .own 66000), (9, .bp 9 0), (11, .bp 11 0), (13, .int .i64 st1), (92, .int .i64 (v0_11.1.length : Int)), (93, .int .i64 st1), (96, .int .i64 st1), (97, .int .i64 st2), (151, .bool true)] [(3, .box 24 [.int .i64 s.1, .int .i64 s.2.1, .sl (.sl (.int .i64)) s.2.2.1, .sl (.sl (.int .i64)) s.2.2.2]), (4, .box 24 [.int .i64 t.1, .int .i64 t.2.1, .sl (.sl (.int .i64)) t.2.2.1, .sl (.sl (.int .i64)) t.2.2.2]), (9, .box 24 [.int .i64 v0_12.1, .int .i64 v0_12.2.1, .own 71000, .own 71001]), (11, .box 24 [.int .i64 v0_13.1, .int .i64 v0_13.2.1, .own 76000, .own 76001]), (66000, .arr 3 (.int .i64) v0_11.1), (71000, .arr 25 (.sl (.int .i64)) v0_12.2.2.1), (71001, .arr 25 (.sl (.int .i64)) v0_12.2.2.2.1), (76000, .arr 25 (.sl (.int .i64)) v0_13.2.2.1), (76001, .arr 25 (.sl (.int .i64)) v0_13.2.2.2.1)] gt ?_
                                  refine AW.cond (b := true) rfl (fun _ => ?_) (fun hb95 => by cases hb95)
                                  refine zo ?_
                                  refine zB [(6, .bool false)] [] ?_
                                  refine AW.ret ?_
                                  refine ablock_r ?_
                                  refine athen_r ?_
                                  obtain rfl := Option.some.inj h
                                  rw [← hd72 _ rfl] at ho71
                                  have h := ho71
                                  try simp only at h
                                  refine athen_r ?_
                                  refine ablock_r ?_
                                  refine ablock_r ?_
                                  refine athen_r ?_
                                  obtain rfl := Option.some.inj h
                                  rw [← hd65 _ rfl] at ho64
                                  have h := ho64
                                  try simp only at h
                                  refine athen_r ?_
                                  refine ablock_r ?_
                                  refine athen_r ?_
                                  obtain rfl := Option.some.inj h
                                  exact zR [] [] []
                                ·
                                  simp only [hb89]
                                  obtain ⟨c97, h⟩ := ck_some.1 h
                                  obtain ⟨c98, h⟩ := ck_some.1 h
                                  refine adops_cut 6 (fun K' hK96 => ?_)
                                  try dsimp only [List.drop_succ_cons, List.drop_zero, List.take_succ_cons, List.take_zero]
                                  simp only [go_sem, hb2, hb6, hb10, hb14, hb18, hb23, hb25, hb27, hb29, hb32, hb68, hb75, hb80, hb89]
                                  repeat (with_reducible refine And.intro (by first | assumption | rfl | omega | trivial | (unfold maxLen; omega)) ?_)
                                  refine hK96 _ ?_
                                  obtain ⟨c100, h⟩ := ck_some.1 h
                                  obtain ⟨c101, h⟩ := ck_some.1 h
                                  refine adops_cut 6 (fun K' hK99 => ?_)
                                  try dsimp only [List.drop_succ_cons, List.drop_zero, List.take_succ_cons, List.take_zero]
                                  simp only [go_sem, hb2, hb6, hb10, hb14, hb18, hb23, hb25, hb27, hb29, hb32, hb68, hb75, hb80, hb89]
                                  repeat (with_reducible refine And.intro (by first | assumption | rfl | omega | trivial | (unfold maxLen; omega)) ?_)
                                  refine hK99 _ ?_
                                  refine adops_cut 1 (fun K' hK102 => ?_)
                                  try dsimp only [List.drop_succ_cons, List.drop_zero, List.take_succ_cons, List.take_zero]
                                  simp only [go_sem, hb2, hb6, hb10, hb14, hb18, hb23, hb25, hb27, hb29, hb32, hb68, hb75, hb80, hb89]
                                  repeat (with_reducible refine And.intro (by first | assumption | rfl | omega | trivial | (unfold maxLen; omega)) ?_)
                                  refine hK102 _ ?_
                                  rcases zI h with ⟨hb103, h⟩ | ⟨hb103, h⟩
                                  ·
                                    simp only [hb103]
                                    refine adops_cut 4 (fun K' hK104 => ?_)
                                    try dsimp only [List.drop_succ_cons, List.drop_zero, List.take_succ_cons, List.take_zero]
                                    simp only [go_sem, hb2, hb6, hb10, hb14, hb18, hb23, hb25, hb27, hb29, hb32, hb68, hb75, hb80, hb89, hb103]
                                    repeat (with_reducible refine And.intro (by first | assumption | rfl | omega | trivial | (unfold maxLen; omega)) ?_)
                                    refine hK104 _ ?_
                                    refine adops_cut 6 (fun K' hK105 => ?_)
                                    try dsimp only [List.drop_succ_cons, List.drop_zero, List.take_succ_cons, List.take_zero]
                                    simp only [go_sem, hb2, hb6, hb10, hb14, hb18, hb23, hb25, hb27, hb29, hb32, hb68, hb75, hb80, hb89, hb103]
                                    repeat (with_reducible refine And.intro (by first | assumption | rfl | omega | trivial | (unfold maxLen; omega)) ?_)
                                    refine hK105 _ ?_
                                    refine adops_nil ?_
                                    refine athen_n ?_
                                    refine zV [(2, .sl (.int .i64) word), (3, .bp 3 0), (4, .bp 4 0), (7, .own 66000), (9, .bp 9 0), (11, .bp 11 0), (13, .int .i64 st1), (92, .int .i64 (v0_11.1.length : Int)), (93, .int .i64 st1), (96, .int .i64 st1), (97, .int .i64 st2), (151, .bool true)] [(3, .box 24 [.int .i64 s.1, .int .i64 s.2.1, .sl (.sl (.int .i64)) s.2.2.1, .sl (.sl (.int .i64)) s.2.2.2]), (4, .box 24 [.int .i64 t.1, .int .i64 t.2.1, .sl (.sl (.int .i64)) t.2.2.1, .sl (.sl (.int .i64)) t.2.2.2]), (9, .box 24 [.int .i64 v0_12.1, .int .i64 v0_12.2.1, .own 71000, .own 71001]), (11, .box 24 [.int .i64 v0_13.1, .int .i64 v0_13.2.1, .own 76000, .own 76001]), (66000, .arr 3 (.int .i64) v0_11.1), (71000, .arr 25 (.sl (.int .i64)) v0_12.2.2.1), (71001, .arr 25 (.sl (.int .i64)) v0_12.2.2.2.1), (76000, .arr 25 (.sl (.int .i64)) v0_13.2.2.1), (76001, .arr 25 (.sl (.int .i64)) v0_13.2.2.2.1)] gt ?_
                                    refine AW.cond (b := true) rfl (fun _ => ?_) (fun hb106 => by cases hb106)
                                    refine zo ?_
                                    refine zB [(6, .bool false)] [] ?_
                                    refine AW.ret ?_
                                    refine ablock_r ?_
                                    refine athen_r ?_
                                    obtain rfl := Option.some.inj h
                                    rw [← hd72 _ rfl] at ho71
                                    have h := ho71
                                    try simp only at h
                                    refine athen_r ?_
                                    refine ablock_r ?_
                                    refine ablock_r ?_
                                    refine athen_r ?_
                                    obtain rfl := Option.some.inj h
                                    rw [← hd65 _ rfl] at ho64
                                    have h := ho64
                                    try simp only at h
                                    refine athen_r ?_
                                    refine ablock_r ?_
                                    refine athen_r ?_
                                    obtain rfl := Option.some.inj h
                                    exact zR [] [] []
                                  ·
                                    simp only [hb103]
                                    refine adops_cut 6 (fun K' hK107 => ?_)
                                    try dsimp only [List.drop_succ_cons, List.drop_zero, List.take_succ_cons, List.take_zero]
                                    simp only [go_sem, hb2, hb6, hb10, hb14, hb18, hb23, hb25, hb27, hb29, hb32, hb68, hb75, hb80, hb89, hb103]
                                    repeat (with_reducible refine And.intro (by first | assumption | rfl | omega | trivial | (unfold maxLen; omega)) ?_)
                                    refine hK107 _ ?_
                                    rcases zI h with ⟨hb108, h⟩ | ⟨hb108, h⟩
                                    ·
                                      simp only [hb108]
                                      refine adops_cut 4 (fun K' hK109 => ?_)
                                      try dsimp only [List.drop_succ_cons, List.drop_zero, List.take_succ_cons, List.take_zero]
                                      simp only [go_sem, hb2, hb6, hb10, hb14, hb18, hb23, hb25, hb27, hb29, hb32, hb68, hb75, hb80, hb89, hb103, hb108]
                                      repeat (with_reducible refine And.intro (by first | assumption | rfl | omega | trivial | (unfold maxLen; omega)) ?_)
                                      refine hK109 _ ?_
                                      refine adops_nil ?_
                                      refine athen_n ?_
                                      refine zV [(2, .sl (.int .i64) word), (3, .bp 3 0), (4, .bp 4 0), (7, .own 66000), (9, .bp 9 0), (11, .bp 11 0), (13, .int .i64 st1), (92, .int .i64 (v0_11.1.length : Int)), (93, .int .i64 st1), (96, .int .i64 st1), (97, .int .i64 st2), (151, .bool true)] [(3, .box 24 [.int .i64 s.1, .int .i64 s.2.1, .sl (.sl (.int .i64)) s.2.2.1, .sl (.sl (.int .i64)) s.2.2.2]), (4, .box 24 [.int .i64 t.1, .int .i64 t.2.1, .sl (.sl (.int .i64)) t.2.2.1, .sl (.sl (.int .i64)) t.2.2.2]), (9, .box 24 [.int .i64 v0_12.1, .int .i64 v0_12.2.1, .own 71000, .own 71001]), (11, .box 24 [.int .i64 v0_13.1, .int .i64 v0_13.2.1, .own 76000, .own 76001]), (66000, .arr 3 (.int .i64) v0_11.1), (71000, .arr 25 (.sl (.int .i64)) v0_12.2.2.1), (71001, .arr 25 (.sl (.int .i64)) v0_12.2.2.2.1), (76000, .arr 25 (.sl (.int .i64)) v0_13.2.2.1), (76001, .arr 25 (.sl (.int .i64)) v0_13.2.2.2.1)] gt ?_
                                      refine AW.cond (b := true) rfl (fun _ => ?_) (fun hb110 => by cases hb110)
                                      refine zo ?_
                                      refine zB [(6, .bool false)] [] ?_
                                      refine AW.ret ?_
                                      refine ablock_r ?_
                                      refine athen_r ?_
                                      obtain rfl := Option.some.inj h
                                      rw [← hd72 _ rfl] at ho71
                                      have h := ho71
                                      try simp only at h
                                      refine athen_r ?_
                                      refine ablock_r ?_
                                      refine ablock_r ?_
                                      refine athen_r ?_
                                      obtain rfl := Option.some.inj h
                                      rw [← hd65 _ rfl] at ho64
                                      have h := ho64
                                      try simp only at h
                                      refine athen_r ?_
                                      refine ablock_r ?_
                                      refine athen_r ?_
                                      obtain rfl := Option.some.inj h
                                      exact zR [] [] []
                                    ·
                                      simp only [hb108]
                                      refine adops_cut 4 (fun K' hK111 => ?_)
                                      try dsimp only [List.drop_succ_cons, List.drop_zero, List.take_succ_cons, List.take_zero]
                                      simp only [go_sem, hb2, hb6, hb10, hb14, hb18, hb23, hb25, hb27, hb29, hb32, hb68, hb75, hb80, hb89, hb103, hb108]
                                      repeat (with_reducible refine And.intro (by first | assumption | rfl | omega | trivial | (unfold maxLen; omega)) ?_)
                                      refine hK111 _ ?_
                                      refine adops_nil ?_
                                      refine athen_n ?_
                                      refine zV [(2, .sl (.int .i64) word), (3, .bp 3 0), (4, .bp 4 0), (7, .own 66000), (9, .bp 9 0), (11, .bp 11 0), (13, .int .i64 st1), (92, .int .i64 (v0_11.1.length : Int)), (93, .int .i64 st1), (96, .int .i64 st1), (97, .int .i64 st2), (151, .bool ((v0_17.1 == v0_15.1) != false))] [(3, .box 24 [.int .i64 s.1, .int .i64 s.2.1, .sl (.sl (.int .i64)) s.2.2.1, .sl (.sl (.int .i64)) s.2.2.2]), (4, .box 24 [.int .i64 t.1, .int .i64 t.2.1, .sl (.sl (.int .i64)) t.2.2.1, .sl (.sl (.int .i64)) t.2.2.2]), (9, .box 24 [.int .i64 v0_12.1, .int .i64 v0_12.2.1, .own 71000, .own 71001]), (11, .box 24 [.int .i64 v0_13.1, .int .i64 v0_13.2.1, .own 76000, .own 76001]), (66000, .arr 3 (.int .i64) v0_11.1), (71000, .arr 25 (.sl (.int .i64)) v0_12.2.2.1), (71001, .arr 25 (.sl (.int .i64)) v0_12.2.2.2.1), (76000, .arr 25 (.sl (.int .i64)) v0_13.2.2.1), (76001, .arr 25 (.sl (.int .i64)) v0_13.2.2.2.1)] gt ?_
                                      refine zQ h (fun hb112 h => ?_) (fun hb112 h => ?_)
                                      ·
                                        refine zo ?_
                                        refine zB [(6, .bool false)] [] ?_
                                        refine AW.ret ?_
                                        refine ablock_r ?_
                                        refine athen_r ?_
                                        obtain rfl := Option.some.inj h
                                        rw [← hd72 _ rfl] at ho71
                                        have h := ho71
                                        try simp only at h
                                        refine athen_r ?_
                                        refine ablock_r ?_
                                        refine ablock_r ?_
                                        refine athen_r ?_
                                        obtain rfl := Option.some.inj h
                                        rw [← hd65 _ rfl] at ho64
                                        have h := ho64
                                        try simp only at h
                                        refine athen_r ?_
                                        refine ablock_r ?_
                                        refine athen_r ?_
                                        obtain rfl := Option.some.inj h
                                        exact zR [] [] []
                                      ·
                                        refine zm ?_
                                        refine athen_n ?_
                                        refine AW.ops ?_
                                        obtain ⟨c113, h⟩ := ck_some.1 h
                                        refine zA [(2, .sl (.int .i64) word), (3, .bp 3 0), (4, .bp 4 0), (7, .own 66000), (9, .bp 9 0), (11, .bp 11 0), (13, .int .i64 st1), (92, .int .i64 (v0_11.1.length : Int)), (93, .int .i64 st1), (96, .int .i64 st1), (97, .int .i64 (st2 + 1))] [(3, .box 24 [.int .i64 s.1, .int .i64 s.2.1, .sl (.sl (.int .i64)) s.2.2.1, .sl (.sl (.int .i64)) s.2.2.2]), (4, .box 24 [.int .i64 t.1, .int .i64 t.2.1, .sl (.sl (.int .i64)) t.2.2.1, .sl (.sl (.int .i64)) t.2.2.2]), (9, .box 24 [.int .i64 v0_12.1, .int .i64 v0_12.2.1, .own 71000, .own 71001]), (11, .box 24 [.int .i64 v0_13.1, .int .i64 v0_13.2.1, .own 76000, .own 76001]), (66000, .arr 3 (.int .i64) v0_11.1), (71000, .arr 25 (.sl (.int .i64)) v0_12.2.2.1), (71001, .arr 25 (.sl (.int .i64)) v0_12.2.2.2.1), (76000, .arr 25 (.sl (.int .i64)) v0_13.2.2.1), (76001, .arr 25 (.sl (.int .i64)) v0_13.2.2.2.1)] ?_
                                        obtain rfl := Option.some.inj h
                                        exact ⟨_, rfl, zL [] [] []⟩
                            ·
                              refine AW.exit ?_
                              refine athen_e ?_
                              obtain rfl := Option.some.inj h
                              rw [← hd72 _ rfl] at ho71
                              have h := ho71
                              try simp only at h
                              refine athen_e ?_
                              refine ablock_s ?_
                              refine ablock_n ?_
                              refine athen_n ?_
                              exact AW.weaken (zL [] [] []) (hk_linealtop_TopSpec_k2 () h)
                        ·
                          refine AW.exit ?_
                          refine athen_e ?_
                          obtain rfl := Option.some.inj h
                          rw [← hd65 _ rfl] at ho64
                          have h := ho64
                          try simp only at h
                          refine athen_e ?_
                          refine ablock_s ?_
                          refine athen_n ?_
                          exact AW.weaken (zL [] [] []) (hk_linealtop_TopSpec_k1 () h)

end Go.Proofs.Ytfmokmhphfdbpaa
