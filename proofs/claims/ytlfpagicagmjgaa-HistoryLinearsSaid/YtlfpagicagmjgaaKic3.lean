/-
  Made by wip/tool/dc.py out of the print of the program: contracts.
-/
import Derived.Test.YtlfpagicagmjgaaHp
import Derived.Test.YtlfpagicagmjgaaShh
import Derived.Test.YtlfpagicagmjgaaKic2
namespace Go.Proofs.Ytlfpagicagmjgaa
open Go.RowKit

set_option linter.unusedSimpArgs false
set_option linter.unusedVariables false
set_option linter.constructorNameAsVariable false

set_option maxRecDepth 100000
set_option maxHeartbeats 2000000

theorem hc_history_search_first (s : List (Int × Int × (List (List Int)) × (List (List Int)))) (s_2 : List (Int × Int × Int × Int × Int × Int)) (s_3 : List (((Int × Int) × Int) × Int)) {r : (List Int) × Bool × (List (((Int × Int) × Int) × Int))} (h : history_search_first s s_2 s_3 = some r) : HC Try.prog 87 [(1000, .map true false (.pair (.pair (.int .i64) (.int .i64)) (.int .u64)) (.int .i64) s_3)] [.agg [.sl Y0 s, .sl Y1 s_2, .fn (.func 77) [] [], .own 1000]] [(1000, .map true false (.pair (.pair (.int .i64) (.int .i64)) (.int .u64)) (.int .i64) r.2.2), (2000, .arr 3 (.int .i64) r.1)] (.tup [.own 2000, .bool r.2.1]) := by
  unfold history_search_first at h
  refine zH Try.func87 [.tmp 2, .tmp 3] 31 ?_
  refine zo ?_
  refine zB [(1, .bp 1 0)] [(1, .box 76 [.sl Y0 s, .sl Y1 s_2, .fn (.func 77) [] [], .own 1000]), (1000, .map true false (.pair (.pair (.int .i64) (.int .i64)) (.int .u64)) (.int .i64) s_3)] ?_
  refine zo ?_
  refine zB [(1, .bp 1 0), (4, .bp 4 0)] [(1, .box 76 [.sl Y0 s, .sl Y1 s_2, .fn (.func 77) [] [], .own 1000]), (4, .box 95 [.int .i64 0, .int .i64 0, .int .u64 0]), (1000, .map true false (.pair (.pair (.int .i64) (.int .i64)) (.int .u64)) (.int .i64) s_3)] ?_
  refine AW.seq ?_
  refine zo ?_
  refine zS 2 [(1, .bp 1 0), (4, .bp 4 0), (8, .agg [.sl Y0 s, .sl Y1 s_2, .fn (.func 77) [] [], .own 1000]), (9, .agg [.int .i64 0, .int .i64 0, .int .u64 0])] [(1, .box 76 [.sl Y0 s, .sl Y1 s_2, .fn (.func 77) [] [], .own 1000]), (4, .box 95 [.int .i64 0, .int .i64 0, .int .u64 0]), (1000, .map true false (.pair (.pair (.int .i64) (.int .i64)) (.int .u64)) (.int .i64) s_3)] ?_
  obtain ⟨v0, hv1, h⟩ := Option.bind_eq_some_iff.1 h
  refine zC [] [(1000, 1000)] (hc_history_search_count fuel s s_2 ((0, 0), 0) s_3 hv1) [(1, .bp 1 0), (4, .bp 4 0), (10, .int .i64 v0.1)] [(1, .box 76 [.sl Y0 s, .sl Y1 s_2, .fn (.func 77) [] [], .own 1000]), (4, .box 95 [.int .i64 0, .int .i64 0, .int .u64 0]), (1000, .map true false (.pair (.pair (.int .i64) (.int .i64)) (.int .u64)) (.int .i64) v0.2)] ?_
  refine zB [(1, .bp 1 0), (4, .bp 4 0), (11, .bool (decide (v0.1 = 0)))] [(1, .box 76 [.sl Y0 s, .sl Y1 s_2, .fn (.func 77) [] [], .own 1000]), (4, .box 95 [.int .i64 0, .int .i64 0, .int .u64 0]), (1000, .map true false (.pair (.pair (.int .i64) (.int .i64)) (.int .u64)) (.int .i64) v0.2)] ?_
  refine zQ h (fun hb2 h => ?_) (fun hb2 h => ?_)
  ·
    refine zo ?_
    refine zB [(2, .cv (.slice none 0 0)), (3, .bool false)] [(1000, .map true false (.pair (.pair (.int .i64) (.int .i64)) (.int .u64)) (.int .i64) v0.2)] ?_
    refine zr ?_
    obtain rfl := Option.some.inj h
    exact zR [] [2000] []
  ·
    refine zk ?_
    refine zo ?_
    refine zB [(1, .bp 1 0), (4, .bp 4 0), (5, .bp 5 0)] [(1, .box 76 [.sl Y0 s, .sl Y1 s_2, .fn (.func 77) [] [], .own 1000]), (4, .box 95 [.int .i64 0, .int .i64 0, .int .u64 0]), (5, .box 33 [.cv (.slice none 0 0)]), (1000, .map true false (.pair (.pair (.int .i64) (.int .i64)) (.int .u64)) (.int .i64) v0.2)] ?_
    refine AW.have1 (fun b1 : (List Int) × (List (((Int × Int) × Int) × Int)) => history_search_first_k1 b1 = some r) (fun b1 => ⟨fr [(5, .bp 5 0)], hpGet [(5, .box 33 [.own 28]), (28, .arr 3 (.int .i64) b1.1), (1000, .map true false (.pair (.pair (.int .i64) (.int .i64)) (.int .u64)) (.int .i64) b1.2)], gt⟩) (fun b1 h => ?_) (fun hk_history_search_first_k1 => ?_)
    · unfold history_search_first_k1 at h
      refine zo ?_
      refine zB [(2, .own 28), (3, .bool true)] [(28, .arr 3 (.int .i64) b1.1), (1000, .map true false (.pair (.pair (.int .i64) (.int .i64)) (.int .u64)) (.int .i64) b1.2)] ?_
      refine AW.ret ?_
      obtain rfl := Option.some.inj h
      exact zR [] [] [(2000, 28)]
    · refine AW.seq ?_
      refine AW.block ?_
      obtain ⟨rv7, hw3, ho4⟩ := Option.bind_eq_some_iff.1 h
      refine AW.loopO (history_search_first_b1 s s_2) (fun st1 => ⟨fr [(1, .bp 1 0), (4, .bp 4 0), (5, .bp 5 0)], hpGet [(1, .box 76 [.sl Y0 s, .sl Y1 s_2, .fn (.func 77) [] [], .own 1000]), (4, .box 95 [.int .i64 st1.2.1, .int .i64 st1.2.2.1, .int .u64 st1.2.2.2.1]), (5, .box 33 [.own 28]), (28, .arr 3 (.int .i64) st1.2.2.2.2), (1000, .map true false (.pair (.pair (.int .i64) (.int .i64)) (.int .u64)) (.int .i64) st1.1)], gt⟩) (v0.2, 0, 0, 0, []) hw3 (zL [] [28] []) ?_
      intro st1 x6 h hd5
      unfold history_search_first_b1 at h
      refine AW.seq ?_
      refine zo ?_
      refine zS 2 [(1, .bp 1 0), (4, .bp 4 0), (5, .bp 5 0), (12, .agg [.sl Y0 s, .sl Y1 s_2, .fn (.func 77) [] [], .own 1000]), (13, .agg [.int .i64 st1.2.1, .int .i64 st1.2.2.1, .int .u64 st1.2.2.2.1])] [(1, .box 76 [.sl Y0 s, .sl Y1 s_2, .fn (.func 77) [] [], .own 1000]), (4, .box 95 [.int .i64 st1.2.1, .int .i64 st1.2.2.1, .int .u64 st1.2.2.2.1]), (5, .box 33 [.own 28]), (28, .arr 3 (.int .i64) st1.2.2.2.2), (1000, .map true false (.pair (.pair (.int .i64) (.int .i64)) (.int .u64)) (.int .i64) st1.1)] ?_
      obtain ⟨v0_2, hv8, h⟩ := Option.bind_eq_some_iff.1 h
      refine zC [] [] (hc_history_search_full s s_2 ((st1.2.1, st1.2.2.1), st1.2.2.2.1) hv8) [(1, .bp 1 0), (4, .bp 4 0), (5, .bp 5 0), (14, .bool v0_2)] [(1, .box 76 [.sl Y0 s, .sl Y1 s_2, .fn (.func 77) [] [], .own 1000]), (4, .box 95 [.int .i64 st1.2.1, .int .i64 st1.2.2.1, .int .u64 st1.2.2.2.1]), (5, .box 33 [.own 28]), (28, .arr 3 (.int .i64) st1.2.2.2.2), (1000, .map true false (.pair (.pair (.int .i64) (.int .i64)) (.int .u64)) (.int .i64) st1.1)] ?_
      refine zB [(1, .bp 1 0), (4, .bp 4 0), (5, .bp 5 0), (15, .bool (!v0_2))] [(1, .box 76 [.sl Y0 s, .sl Y1 s_2, .fn (.func 77) [] [], .own 1000]), (4, .box 95 [.int .i64 st1.2.1, .int .i64 st1.2.2.1, .int .u64 st1.2.2.2.1]), (5, .box 33 [.own 28]), (28, .arr 3 (.int .i64) st1.2.2.2.2), (1000, .map true false (.pair (.pair (.int .i64) (.int .i64)) (.int .u64)) (.int .i64) st1.1)] ?_
      refine zQ h (fun hb9 h => ?_) (fun hb9 h => ?_)
      ·
        refine zk ?_
        refine AW.block ?_
        refine zo ?_
        refine zS 2 [(1, .bp 1 0), (4, .bp 4 0), (5, .bp 5 0), (16, .agg [.sl Y0 s, .sl Y1 s_2, .fn (.func 77) [] [], .own 1000]), (17, .agg [.int .i64 st1.2.1, .int .i64 st1.2.2.1, .int .u64 st1.2.2.2.1])] [(1, .box 76 [.sl Y0 s, .sl Y1 s_2, .fn (.func 77) [] [], .own 1000]), (4, .box 95 [.int .i64 st1.2.1, .int .i64 st1.2.2.1, .int .u64 st1.2.2.2.1]), (5, .box 33 [.own 28]), (28, .arr 3 (.int .i64) st1.2.2.2.2), (1000, .map true false (.pair (.pair (.int .i64) (.int .i64)) (.int .u64)) (.int .i64) st1.1)] ?_
        obtain ⟨v0_3, hv10, h⟩ := Option.bind_eq_some_iff.1 h
        refine zC [] [] (hc_history_search_steps s s_2 ((st1.2.1, st1.2.2.1), st1.2.2.2.1) hv10) [(1, .bp 1 0), (4, .bp 4 0), (5, .bp 5 0), (18, .fn (.func 127) [] [.bp 28000 0, .bp 28001 0])] [(1, .box 76 [.sl Y0 s, .sl Y1 s_2, .fn (.func 77) [] [], .own 1000]), (4, .box 95 [.int .i64 st1.2.1, .int .i64 st1.2.2.1, .int .u64 st1.2.2.2.1]), (5, .box 33 [.own 28]), (28, .arr 3 (.int .i64) st1.2.2.2.2), (1000, .map true false (.pair (.pair (.int .i64) (.int .i64)) (.int .u64)) (.int .i64) st1.1), (28000, .box 76 [.sl Y0 s, .sl Y1 s_2, .fn (.func 77) [] [], .one]), (28001, .box 95 [.int .i64 st1.2.1, .int .i64 st1.2.2.1, .int .u64 st1.2.2.2.1])] ?_
        refine zB [(1, .bp 1 0), (4, .bp 4 0), (5, .bp 5 0), (18, .fn (.func 127) [] [.bp 28000 0, .bp 28001 0])] [(1, .box 76 [.sl Y0 s, .sl Y1 s_2, .fn (.func 77) [] [], .own 1000]), (4, .box 95 [.int .i64 st1.2.1, .int .i64 st1.2.2.1, .int .u64 st1.2.2.2.1]), (5, .box 33 [.own 28]), (28, .arr 3 (.int .i64) st1.2.2.2.2), (1000, .map true false (.pair (.pair (.int .i64) (.int .i64)) (.int .u64)) (.int .i64) st1.1), (28000, .box 76 [.sl Y0 s, .sl Y1 s_2, .fn (.func 77) [] [], .one]), (28001, .box 95 [.int .i64 st1.2.1, .int .i64 st1.2.2.1, .int .u64 st1.2.2.2.1])] ?_
        refine AW.block ?_
        obtain ⟨x11, hx12, h⟩ := Option.bind_eq_some_iff.1 h
        refine AW.weaken (s' := ⟨fr [(1, .bp 1 0), (4, .bp 4 0), (5, .bp 5 0), (18, .fn (.func 127) [] [.bp 28000 0, .bp 28001 0])], hpGet ([(28000, .box 76 [.sl Y0 s, .sl Y1 s_2, .fn (.func 77) [] [], .one]), (28001, .box 95 [.int .i64 st1.2.1, .int .i64 st1.2.2.1, .int .u64 st1.2.2.2.1])] ++ [(1, .box 76 [.sl Y0 s, .sl Y1 s_2, .fn (.func 77) [] [], .own 1000]), (4, .box 95 [.int .i64 st1.2.1, .int .i64 st1.2.2.1, .int .u64 st1.2.2.2.1]), (5, .box 33 [.own 28]), (28, .arr 3 (.int .i64) st1.2.2.2.2), (1000, .map true false (.pair (.pair (.int .i64) (.int .i64)) (.int .u64)) (.int .i64) st1.1)]), gt⟩) (zL [] [] []) ?_
        refine AW.rangeF (R := (List (((Int × Int) × Int) × Int)) × Int × Int × Int × (List Int)) (l0 := [(1, .bp 1 0), (4, .bp 4 0), (5, .bp 5 0)]) (hI := [(28000, .box 76 [.sl Y0 s, .sl Y1 s_2, .fn (.func 77) [] [], .one]), (28001, .box 95 [.int .i64 st1.2.1, .int .i64 st1.2.2.1, .int .u64 st1.2.2.2.1])]) (h0 := fun (st2 : (List (((Int × Int) × Int) × Int))) => [(1, .box 76 [.sl Y0 s, .sl Y1 s_2, .fn (.func 77) [] [], .own 1000]), (4, .box 95 [.int .i64 st1.2.1, .int .i64 st1.2.2.1, .int .u64 st1.2.2.2.1]), (5, .box 33 [.own 28]), (28, .arr 3 (.int .i64) st1.2.2.2.2), (1000, .map true false (.pair (.pair (.int .i64) (.int .i64)) (.int .u64)) (.int .i64) st2)]) (gg := fun (st2 : (List (((Int × Int) × Int) × Int))) => gt) (hx0 := (fun (r2 : (List (((Int × Int) × Int) × Int)) × Int × Int × Int × (List Int)) => [(1, .box 76 [.sl Y0 s, .sl Y1 s_2, .fn (.func 77) [] [], .own 1000]), (4, .box 95 [.int .i64 r2.2.1, .int .i64 r2.2.2.1, .int .u64 r2.2.2.2.1]), (5, .box 33 [.own 28]), (28, .arr 3 (.int .i64) r2.2.2.2.2), (1000, .map true false (.pair (.pair (.int .i64) (.int .i64)) (.int .u64)) (.int .i64) r2.1)])) (gx := (fun (r2 : (List (((Int × Int) × Int) × Int)) × Int × Int × Int × (List Int)) => gt)) (ex := (fun (r2 : (List (((Int × Int) × Int) × Int)) × Int × Int × Int × (List Int)) => Exit.exit 2)) st1.1 [(28000, 1000), (28001, 1001)] [(1000, 28000), (1001, 28001)] [(1, 1900), (4, 1901), (5, 1902)] [(1900, 1), (1901, 4), (1902, 5)] (by decide) rfl (by first | exact (ic_history_search_steps_1 s s_2 ((st1.2.1, st1.2.2.1), st1.2.2.2.1) (history_search_first_y2 s s_2 st1) st1.1 hx12) | simpa only [go_sem] using (ic_history_search_steps_1 s s_2 ((st1.2.1, st1.2.2.1), st1.2.2.2.1) (history_search_first_y2 s s_2 st1) st1.1 hx12)) (by (simp only [go_sem, hb2, hb9]) <;> (with_reducible and_intros) <;> first | assumption | rfl | omega | (unfold maxLen; omega)) rfl rfl rfl (fun _ => rfl) rfl (fun _ => rfl) rfl (fun _ => rfl) (fun _ => rfl) (fun _ => rfl) (fun _ => rfl) rfl (fun _ _ => by first | rfl | (exact (hΓ _).trans (hΓ _).symm) | (exact (hΓx _).trans (hΓ _).symm)) (fun _ _ => by first | rfl | (exact (hΓ _).trans (hΓ _).symm) | (exact (hΓx _).trans (hΓ _).symm)) ?_ ?_
        · intro lpy2 y2 st2 x13 h
          unfold history_search_first_y2 at h
          refine zV [(1, .bp 1900 0), (4, .bp 1901 0), (5, .bp 1902 0), (19, .int .i64 y2.1), (20, .agg [.int .i64 y2.2.1.1, .int .i64 y2.2.1.2, .int .u64 y2.2.2])] [(28, .arr 3 (.int .i64) st1.2.2.2.2), (1000, .map true false (.pair (.pair (.int .i64) (.int .i64)) (.int .u64)) (.int .i64) st2), (1900, .box 76 [.sl Y0 s, .sl Y1 s_2, .fn (.func 77) [] [], .own 1000]), (1901, .box 95 [.int .i64 st1.2.1, .int .i64 st1.2.2.1, .int .u64 st1.2.2.2.1]), (1902, .box 33 [.own 28])] gt ?_
          refine zo ?_
          refine zB [(1, .bp 1900 0), (4, .bp 1901 0), (5, .bp 1902 0), (6, .int .i64 y2.1), (20, .agg [.int .i64 y2.2.1.1, .int .i64 y2.2.1.2, .int .u64 y2.2.2])] [(28, .arr 3 (.int .i64) st1.2.2.2.2), (1000, .map true false (.pair (.pair (.int .i64) (.int .i64)) (.int .u64)) (.int .i64) st2), (1900, .box 76 [.sl Y0 s, .sl Y1 s_2, .fn (.func 77) [] [], .own 1000]), (1901, .box 95 [.int .i64 st1.2.1, .int .i64 st1.2.2.1, .int .u64 st1.2.2.2.1]), (1902, .box 33 [.own 28])] ?_
          refine AW.ops ?_
          refine zA [(1, .bp 1900 0), (4, .bp 1901 0), (5, .bp 1902 0), (6, .int .i64 y2.1), (7, .bp 7 0)] [(7, .box 95 [.int .i64 y2.2.1.1, .int .i64 y2.2.1.2, .int .u64 y2.2.2]), (28, .arr 3 (.int .i64) st1.2.2.2.2), (1000, .map true false (.pair (.pair (.int .i64) (.int .i64)) (.int .u64)) (.int .i64) st2), (1900, .box 76 [.sl Y0 s, .sl Y1 s_2, .fn (.func 77) [] [], .own 1000]), (1901, .box 95 [.int .i64 st1.2.1, .int .i64 st1.2.2.1, .int .u64 st1.2.2.2.1]), (1902, .box 33 [.own 28])] ?_
          refine And.intro rfl ?_
          refine AW.block ?_
          refine zo ?_
          refine zS 2 [(1, .bp 1900 0), (4, .bp 1901 0), (5, .bp 1902 0), (6, .int .i64 y2.1), (7, .bp 7 0), (21, .agg [.sl Y0 s, .sl Y1 s_2, .fn (.func 77) [] [], .own 1000]), (22, .agg [.int .i64 y2.2.1.1, .int .i64 y2.2.1.2, .int .u64 y2.2.2])] [(7, .box 95 [.int .i64 y2.2.1.1, .int .i64 y2.2.1.2, .int .u64 y2.2.2]), (28, .arr 3 (.int .i64) st1.2.2.2.2), (1000, .map true false (.pair (.pair (.int .i64) (.int .i64)) (.int .u64)) (.int .i64) st2), (1900, .box 76 [.sl Y0 s, .sl Y1 s_2, .fn (.func 77) [] [], .own 1000]), (1901, .box 95 [.int .i64 st1.2.1, .int .i64 st1.2.2.1, .int .u64 st1.2.2.2.1]), (1902, .box 33 [.own 28])] ?_
          obtain ⟨v0_4, hv14, h⟩ := Option.bind_eq_some_iff.1 h
          refine zC [] [(1000, 1000)] (hc_history_search_count fuel s s_2 y2.2 st2 hv14) [(1, .bp 1900 0), (4, .bp 1901 0), (5, .bp 1902 0), (6, .int .i64 y2.1), (7, .bp 7 0), (23, .int .i64 v0_4.1)] [(7, .box 95 [.int .i64 y2.2.1.1, .int .i64 y2.2.1.2, .int .u64 y2.2.2]), (28, .arr 3 (.int .i64) st1.2.2.2.2), (1000, .map true false (.pair (.pair (.int .i64) (.int .i64)) (.int .u64)) (.int .i64) v0_4.2), (1900, .box 76 [.sl Y0 s, .sl Y1 s_2, .fn (.func 77) [] [], .own 1000]), (1901, .box 95 [.int .i64 st1.2.1, .int .i64 st1.2.2.1, .int .u64 st1.2.2.2.1]), (1902, .box 33 [.own 28])] ?_
          refine zB [(1, .bp 1900 0), (4, .bp 1901 0), (5, .bp 1902 0), (6, .int .i64 y2.1), (7, .bp 7 0), (24, .bool (decide (0 < v0_4.1)))] [(7, .box 95 [.int .i64 y2.2.1.1, .int .i64 y2.2.1.2, .int .u64 y2.2.2]), (28, .arr 3 (.int .i64) st1.2.2.2.2), (1000, .map true false (.pair (.pair (.int .i64) (.int .i64)) (.int .u64)) (.int .i64) v0_4.2), (1900, .box 76 [.sl Y0 s, .sl Y1 s_2, .fn (.func 77) [] [], .own 1000]), (1901, .box 95 [.int .i64 st1.2.1, .int .i64 st1.2.2.1, .int .u64 st1.2.2.2.1]), (1902, .box 33 [.own 28])] ?_
          refine zQ h (fun hb15 h => ?_) (fun hb15 h => ?_)
          ·
            refine AW.seq ?_
            refine AW.draw tab_ok mixed_ok [(2, [27]), (3, [28]), (5, [1902]), (6, [1901])] [(0, [28, 1902, 1000000028]), (4, [7]), (100005, []), (100006, [])] (by decide) (by kernel_rfl) ?_
            obtain ⟨c17, h⟩ := ck_some.1 h
            refine adops_cut 6 (fun K' hK16 => ?_)
            try dsimp only [List.drop_succ_cons, List.drop_zero, List.take_succ_cons, List.take_zero]
            simp only [go_sem, hb2, hb9, hb15]
            repeat (with_reducible refine And.intro (by first | assumption | rfl | omega | trivial | (unfold maxLen; omega)) ?_)
            refine hK16 _ ?_
            refine adops_cut 1 (fun K' hK18 => ?_)
            try dsimp only [List.drop_succ_cons, List.drop_zero, List.take_succ_cons, List.take_zero]
            simp only [go_sem, hb2, hb9, hb15]
            repeat (with_reducible refine And.intro (by first | assumption | rfl | omega | trivial | (unfold maxLen; omega)) ?_)
            refine hK18 _ ?_
            refine adops_nil ?_
            refine athen_n ?_
            refine zV [(1, .bp 1900 0), (4, .bp 1901 0), (5, .bp 1902 0)] [(28, .arr 3 (.int .i64) (st1.2.2.2.2 ++ [y2.1])), (1000, .map true false (.pair (.pair (.int .i64) (.int .i64)) (.int .u64)) (.int .i64) v0_4.2), (1900, .box 76 [.sl Y0 s, .sl Y1 s_2, .fn (.func 77) [] [], .own 1000]), (1901, .box 95 [.int .i64 y2.2.1.1, .int .i64 y2.2.1.2, .int .u64 y2.2.2]), (1902, .box 33 [.own 28])] gt ?_
            refine AW.exit ?_
            refine ablock_o (by decide) ?_
            obtain rfl := Option.some.inj h
            exact rpost_exit rfl rfl [] [] [] rfl (by (simp only [go_sem, hb2, hb9, hb15]) <;> (with_reducible and_intros) <;> first | assumption | rfl | omega | (unfold maxLen; omega))
          ·
            refine zm ?_
            obtain rfl := Option.some.inj h
            exact rpost_next rfl [] [] [] rfl (by (simp only [go_sem, hb2, hb9, hb15]) <;> (with_reducible and_intros) <;> first | assumption | rfl | omega | (unfold maxLen; omega))
        · cases x11 with
          | inl st2_2 =>
            try simp only at h
            refine ablock_n ?_
            refine ablock_n ?_
            obtain rfl := Option.some.inj h
            exact ⟨_, rfl, zL [] [] []⟩
          | inr r2 =>
            try simp only at h
            refine ablock_s ?_
            refine ablock_n ?_
            obtain rfl := Option.some.inj h
            exact ⟨_, rfl, zL [] [] []⟩
      ·
        refine AW.exit ?_
        refine athen_e ?_
        obtain rfl := Option.some.inj h
        rw [← hd5 _ rfl] at ho4
        have h := ho4
        refine athen_e ?_
        refine ablock_s ?_
        refine athen_n ?_
        exact AW.weaken (zL [] [] []) (hk_history_search_first_k1 _ h)

theorem hc_history_Order (specs : List (Int × Int × (List (List Int)) × (List (List Int)))) (h0 : List (Int × Int × Int × Int × Int × Int)) {r : (List Int) × Int} (h : history_Order specs h0 = some r) : HC Try.prog 30 [] [.sl Y0 specs, .sl Y1 h0] [(2000, .arr 3 (.int .i64) r.1)] (.tup [.own 2000, .int .i64 r.2]) := by
  unfold history_Order at h
  refine zH Try.func30 [.tmp 4, .tmp 5] 29 ?_
  refine zo ?_
  refine zB [(2, .bp 2 0), (3, .bp 3 0)] [(2, .box 22 [.sl Y0 specs]), (3, .box 23 [.sl Y1 h0])] ?_
  refine zo ?_
  refine zS 2 [(2, .bp 2 0), (3, .bp 3 0), (11, .sl Y0 specs), (12, .sl Y1 h0)] [(2, .box 22 [.sl Y0 specs]), (3, .box 23 [.sl Y1 h0])] ?_
  obtain ⟨v0, hv1, h⟩ := Option.bind_eq_some_iff.1 h
  refine zC [] [] (hc_history_checkFor specs h0 hv1) [(2, .bp 2 0), (3, .bp 3 0), (13, .int .i64 v0)] [(2, .box 22 [.sl Y0 specs]), (3, .box 23 [.sl Y1 h0])] ?_
  refine zS 1 [(13, .int .i64 v0), (14, .fn (.func 85) [] [.bp 2 0, .bp 3 0])] [(2, .box 22 [.sl Y0 specs]), (3, .box 23 [.sl Y1 h0])] ?_
  rcases Bool.eq_false_or_eq_true (decide (v0 = 0)) with hb2 | hb2
  · rw [if_pos hb2] at h
    have hz3 : v0 = 0 := by simpa using hb2
    refine zT [(13, .int .i64 0), (14, .fn (.func 85) [] [.bp 2 0, .bp 3 0])] [(2, .box 22 [.sl Y0 specs]), (3, .box 23 [.sl Y1 h0])] gt ?_
    obtain ⟨v0_2, hv4, h⟩ := Option.bind_eq_some_iff.1 h
    refine zC [] [(1000, 2), (1001, 3)] (hc_history_told specs h0 hv4) [(15, .tup [.agg [.sl Y0 specs, .sl Y1 h0, .fn (.func 77) [] [], .own 25000], .int .i64 0])] [(25000, .map true false (.pair (.pair (.int .i64) (.int .i64)) (.int .u64)) (.int .i64) [])] ?_
    refine zB [(6, .bp 6 0), (7, .int .i64 0)] [(6, .box 76 [.sl Y0 specs, .sl Y1 h0, .fn (.func 77) [] [], .own 25000]), (25000, .map true false (.pair (.pair (.int .i64) (.int .i64)) (.int .u64)) (.int .i64) [])] ?_
    refine AW.seq ?_
    refine zo ?_
    refine zB [(6, .bp 6 0), (7, .int .i64 0), (19, .bool false)] [(6, .box 76 [.sl Y0 specs, .sl Y1 h0, .fn (.func 77) [] [], .own 25000]), (25000, .map true false (.pair (.pair (.int .i64) (.int .i64)) (.int .u64)) (.int .i64) [])] ?_
    refine AW.cond (b := false) rfl (fun hb5 => by cases hb5) (fun _ => ?_)
    refine zk ?_
    refine zo ?_
    refine zS 1 [(22, .agg [.sl Y0 specs, .sl Y1 h0, .fn (.func 77) [] [], .own 25000])] [(25000, .map true false (.pair (.pair (.int .i64) (.int .i64)) (.int .u64)) (.int .i64) [])] ?_
    obtain ⟨v0_3, hv6, h⟩ := Option.bind_eq_some_iff.1 h
    refine zC [] [(1000, 25000)] (hc_history_search_first specs h0 [] hv6) [(23, .tup [.own 33000, .bool v0_3.2.1])] [(33000, .arr 3 (.int .i64) v0_3.1)] ?_
    refine zB [(8, .own 33000), (9, .bool v0_3.2.1)] [(33000, .arr 3 (.int .i64) v0_3.1)] ?_
    refine AW.seq ?_
    refine zo ?_
    refine zB [(8, .own 33000), (27, .bool (!v0_3.2.1))] [(33000, .arr 3 (.int .i64) v0_3.1)] ?_
    refine zQ h (fun hb7 h => ?_) (fun hb7 h => ?_)
    ·
      refine zo ?_
      refine zB [(4, .cv (.slice none 0 0)), (5, .int .i64 5)] [] ?_
      refine zr ?_
      obtain rfl := Option.some.inj h
      exact zR [] [2000] []
    ·
      refine zk ?_
      refine zo ?_
      refine zB [(4, .own 33000), (5, .int .i64 0)] [(33000, .arr 3 (.int .i64) v0_3.1)] ?_
      refine AW.ret ?_
      obtain rfl := Option.some.inj h
      exact zR [] [] [(2000, 33000)]
  · rw [if_neg (Bool.eq_false_iff.1 hb2)] at h
    refine zT [(13, .int .i64 v0), (14, .fn (.func 85) [] [.bp 2 0, .bp 3 0])] [(2, .box 22 [.sl Y0 specs]), (3, .box 23 [.sl Y1 h0])] gt ?_
    obtain ⟨v0_4, hv8, h⟩ := Option.bind_eq_some_iff.1 h
    refine zC [] [(1000, 2), (1001, 3)] (hc_history_told_2 v0 specs h0 hb2 hv8) [(15, .tup [.agg [.cv (.slice none 0 0), .cv (.slice none 0 0), .cv (.nilFunc), .cv (.map none)], .int .i64 v0])] [] ?_
    refine zB [(6, .bp 6 0), (7, .int .i64 v0)] [(6, .box 76 [.cv (.slice none 0 0), .cv (.slice none 0 0), .cv (.nilFunc), .cv (.map none)])] ?_
    refine AW.seq ?_
    refine zo ?_
    refine zB [(6, .bp 6 0), (7, .int .i64 v0), (19, .bool true)] [(6, .box 76 [.cv (.slice none 0 0), .cv (.slice none 0 0), .cv (.nilFunc), .cv (.map none)])] ?_
    refine AW.cond (b := true) rfl (fun _ => ?_) (fun hb9 => by cases hb9)
    refine zo ?_
    refine zB [(4, .cv (.slice none 0 0)), (5, .int .i64 v0)] [] ?_
    refine zr ?_
    obtain rfl := Option.some.inj h
    exact zR [] [2000] []

theorem hc_linealref02_SameInts (a : List Int) (b : List Int) {r : Bool} (h : linealref02_SameInts a b = some r) : HC Try.prog 32 [] [.sl (.int .i64) a, .sl (.int .i64) b] [] (.bool r) := by
  unfold linealref02_SameInts at h
  refine zH Try.func32 [.tmp 4] 26 ?_
  refine zo ?_
  refine zB [(0, .sl (.int .i64) a), (1, .sl (.int .i64) b)] [] ?_
  refine AW.seq ?_
  refine zo ?_
  refine zB [(0, .sl (.int .i64) a), (1, .sl (.int .i64) b), (10, .bool (!(decide ((a.length : Int) = (b.length : Int)))))] [] ?_
  refine zQ h (fun hb1 h => ?_) (fun hb1 h => ?_)
  ·
    refine zo ?_
    refine zB [(4, .bool false)] [] ?_
    refine zr ?_
    obtain rfl := Option.some.inj h
    exact zR [] [] []
  ·
    refine zk ?_
    refine AW.have1 (fun _ : Unit => linealref02_SameInts_k1 = some r) (fun _ => ⟨fr [], hpGet [], gt⟩) (fun _ h => ?_) (fun hk_linealref02_SameInts_k1 => ?_)
    · unfold linealref02_SameInts_k1 at h
      refine zo ?_
      refine zB [(4, .bool true)] [] ?_
      refine AW.ret ?_
      obtain rfl := Option.some.inj h
      exact zR [] [] []
    · refine AW.seq ?_
      refine zo ?_
      refine zB [(0, .sl (.int .i64) a), (1, .sl (.int .i64) b), (5, .int .i64 0)] [] ?_
      refine AW.block ?_
      obtain ⟨rv6, hw2, ho3⟩ := Option.bind_eq_some_iff.1 h
      refine AW.loopO (linealref02_SameInts_b1 a b) (fun st1 => ⟨fr [(0, .sl (.int .i64) a), (1, .sl (.int .i64) b), (5, .int .i64 st1)], hpGet [], gt⟩) 0 hw2 (zL [] [] []) ?_
      intro st1 x5 h hd4
      unfold linealref02_SameInts_b1 at h
      refine AW.seq ?_
      refine zo ?_
      refine zB [(0, .sl (.int .i64) a), (1, .sl (.int .i64) b), (5, .int .i64 st1), (14, .bool (decide (st1 < (a.length : Int))))] [] ?_
      refine zQ h (fun hb7 h => ?_) (fun hb7 h => ?_)
      ·
        refine zk ?_
        refine AW.seq ?_
        refine AW.block ?_
        refine AW.seq ?_
        refine AW.draw tab_ok mixed_ok [] [] (by decide) (by kernel_rfl) ?_
        obtain ⟨c9, h⟩ := ck_some.1 h
        obtain ⟨c10, h⟩ := ck_some.1 h
        refine adops_cut 6 (fun K' hK8 => ?_)
        try dsimp only [List.drop_succ_cons, List.drop_zero, List.take_succ_cons, List.take_zero]
        simp only [go_sem, hb1, hb7]
        repeat (with_reducible refine And.intro (by first | assumption | rfl | omega | trivial | (unfold maxLen; omega)) ?_)
        refine hK8 _ ?_
        obtain ⟨c12, h⟩ := ck_some.1 h
        obtain ⟨c13, h⟩ := ck_some.1 h
        refine adops_cut 3 (fun K' hK11 => ?_)
        try dsimp only [List.drop_succ_cons, List.drop_zero, List.take_succ_cons, List.take_zero]
        simp only [go_sem, hb1, hb7]
        repeat (with_reducible refine And.intro (by first | assumption | rfl | omega | trivial | (unfold maxLen; omega)) ?_)
        refine hK11 _ ?_
        refine adops_nil ?_
        refine athen_n ?_
        refine zV [(0, .sl (.int .i64) a), (1, .sl (.int .i64) b), (5, .int .i64 st1), (25, .bool (!(decide ((a.getD st1.toNat 0) = (b.getD st1.toNat 0)))))] [] gt ?_
        refine zQ h (fun hb14 h => ?_) (fun hb14 h => ?_)
        ·
          refine zo ?_
          refine zB [(4, .bool false)] [] ?_
          refine AW.ret ?_
          refine ablock_r ?_
          refine athen_r ?_
          obtain rfl := Option.some.inj h
          rw [← hd4 _ rfl] at ho3
          have h := ho3
          try simp only at h
          refine athen_r ?_
          refine ablock_r ?_
          refine athen_r ?_
          obtain rfl := Option.some.inj h
          exact zR [] [] []
        ·
          refine zm ?_
          refine athen_n ?_
          refine AW.ops ?_
          obtain ⟨c15, h⟩ := ck_some.1 h
          refine zA [(0, .sl (.int .i64) a), (1, .sl (.int .i64) b), (5, .int .i64 (st1 + 1))] [] ?_
          obtain rfl := Option.some.inj h
          exact ⟨_, rfl, zL [] [] []⟩
      ·
        refine AW.exit ?_
        refine athen_e ?_
        obtain rfl := Option.some.inj h
        rw [← hd4 _ rfl] at ho3
        have h := ho3
        try simp only at h
        refine athen_e ?_
        refine ablock_s ?_
        refine athen_n ?_
        exact AW.weaken (zL [] [] []) (hk_linealref02_SameInts_k1 () h)

theorem hc_lineallaw02_Sane {r : Bool} (h : lineallaw02_Sane = some r) : HC Try.prog 19 [] [] [] (.bool r) := by
  unfold lineallaw02_Sane at h
  refine zH Try.func19 [.tmp 0] 27 ?_
  refine zo ?_
  refine zB [] [] ?_
  refine zo ?_
  refine zB [(1, .bp 1 0)] [(1, .box 64 [.int .i64 2, .int .i64 2, .own 6, .own 9]), (6, .arr 33 (.sl (.int .i64)) [[1, 0], [1, 0]]), (9, .arr 33 (.sl (.int .i64)) [[1, 0], [0, 1]])] ?_
  refine zo ?_
  refine zS 5 [(13, .own 13), (16, .own 16)] [(13, .arr 64 Y0 [(2, 2, [[1, 0], [1, 0]], [[1, 0], [0, 1]])]), (16, .arr 55 Y1 [(0, 0, 0, 1, 1, 6), (1, 0, 1, 0, 2, 5)])] ?_
  obtain ⟨v0, hv1, h⟩ := Option.bind_eq_some_iff.1 h
  refine zC [13, 16] [] (hc_history_Order [(2, 2, [[1, 0], [1, 0]], [[1, 0], [0, 1]])] [(0, 0, 0, 1, 1, 6), (1, 0, 1, 0, 2, 5)] hv1) [(17, .tup [.own 27000, .int .i64 v0.2])] [(27000, .arr 3 (.int .i64) v0.1)] ?_
  refine zB [(2, .own 27000), (3, .int .i64 v0.2)] [(27000, .arr 3 (.int .i64) v0.1)] ?_
  refine zo ?_
  refine zS 3 [(2, .own 27000), (22, .bool (decide (v0.2 = 0)))] [(27000, .arr 3 (.int .i64) v0.1)] ?_
  rcases zI h with ⟨hb2, h⟩ | ⟨hb2, h⟩
  ·
    refine zT [(2, .own 27000), (22, .bool true)] [(27000, .arr 3 (.int .i64) v0.1)] gt ?_
    refine zS 2 [(22, .bool true), (23, .own 27000), (24, .own 24)] [(24, .arr 3 (.int .i64) [1, 0]), (27000, .arr 3 (.int .i64) v0.1)] ?_
    obtain ⟨v0_2, hv3, h⟩ := Option.bind_eq_some_iff.1 h
    refine zG [24, 27000] [] (hc_linealref02_SameInts v0.1 [1, 0] hv3) [(22, .bool true), (25, .bool v0_2)] [] ?_
    refine zB [(0, .bool v0_2)] [] ?_
    refine AW.ret ?_
    obtain rfl := Option.some.inj h
    exact zR [] [] []
  ·
    refine zT [(2, .own 27000), (22, .bool false)] [(27000, .arr 3 (.int .i64) v0.1)] gt ?_
    refine zB [(0, .bool false)] [] ?_
    refine AW.ret ?_
    obtain rfl := Option.some.inj h
    exact zR [] [] []

theorem hc_lineallaw02_Long (h0 : List (Int × Int × Int × Int × Int × Int)) {r : Unit} (h : lineallaw02_Long h0 = some r) : HC Try.prog 18 [] [.sl Y1 h0] [] (.bool (decide (40 < (h0.length : Int)))) := by
  unfold lineallaw02_Long at h
  refine zH Try.func18 [.tmp 2] 6 ?_
  refine zo ?_
  refine zB [(0, .sl Y1 h0)] [] ?_
  refine zo ?_
  refine zB [(2, .bool (decide (40 < (h0.length : Int))))] [] ?_
  refine AW.ret ?_
  obtain rfl := Option.some.inj h
  exact zR [] [] []

theorem hc_history_inThread (a : Int × Int × Int × Int × Int × Int) (b : Int × Int × Int × Int × Int × Int) {r : Bool} (h : history_inThread a b = some r) : HC Try.prog 91 [] [.agg [.int .i64 a.1, .int .i64 a.2.1, .int .i64 a.2.2.1, .int .i64 a.2.2.2.1, .int .i64 a.2.2.2.2.1, .int .i64 a.2.2.2.2.2], .agg [.int .i64 b.1, .int .i64 b.2.1, .int .i64 b.2.2.1, .int .i64 b.2.2.2.1, .int .i64 b.2.2.2.2.1, .int .i64 b.2.2.2.2.2]] [] (.bool r) := by
  unfold history_inThread at h
  refine zH Try.func91 [.tmp 4] 17 ?_
  refine zo ?_
  refine zB [(2, .bp 2 0), (3, .bp 3 0)] [(2, .box 55 [.int .i64 a.1, .int .i64 a.2.1, .int .i64 a.2.2.1, .int .i64 a.2.2.2.1, .int .i64 a.2.2.2.2.1, .int .i64 a.2.2.2.2.2]), (3, .box 55 [.int .i64 b.1, .int .i64 b.2.1, .int .i64 b.2.2.1, .int .i64 b.2.2.2.1, .int .i64 b.2.2.2.2.1, .int .i64 b.2.2.2.2.2])] ?_
  refine zo ?_
  refine zS 6 [(2, .bp 2 0), (3, .bp 3 0), (10, .bool (decide (a.1 = b.1)))] [(2, .box 55 [.int .i64 a.1, .int .i64 a.2.1, .int .i64 a.2.2.1, .int .i64 a.2.2.2.1, .int .i64 a.2.2.2.2.1, .int .i64 a.2.2.2.2.2]), (3, .box 55 [.int .i64 b.1, .int .i64 b.2.1, .int .i64 b.2.2.1, .int .i64 b.2.2.2.1, .int .i64 b.2.2.2.2.1, .int .i64 b.2.2.2.2.2])] ?_
  rcases zI h with ⟨hb1, h⟩ | ⟨hb1, h⟩
  ·
    refine zT [(2, .bp 2 0), (3, .bp 3 0), (10, .bool true)] [(2, .box 55 [.int .i64 a.1, .int .i64 a.2.1, .int .i64 a.2.2.1, .int .i64 a.2.2.2.1, .int .i64 a.2.2.2.2.1, .int .i64 a.2.2.2.2.2]), (3, .box 55 [.int .i64 b.1, .int .i64 b.2.1, .int .i64 b.2.2.1, .int .i64 b.2.2.2.1, .int .i64 b.2.2.2.2.1, .int .i64 b.2.2.2.2.2])] gt ?_
    refine zB [(4, .bool (decide (b.2.2.2.2.1 < a.2.2.2.2.1)))] [] ?_
    refine AW.ret ?_
    obtain rfl := Option.some.inj h
    exact zR [] [] []
  ·
    refine zT [(2, .bp 2 0), (3, .bp 3 0), (10, .bool false)] [(2, .box 55 [.int .i64 a.1, .int .i64 a.2.1, .int .i64 a.2.2.1, .int .i64 a.2.2.2.1, .int .i64 a.2.2.2.2.1, .int .i64 a.2.2.2.2.2]), (3, .box 55 [.int .i64 b.1, .int .i64 b.2.1, .int .i64 b.2.2.1, .int .i64 b.2.2.2.1, .int .i64 b.2.2.2.2.1, .int .i64 b.2.2.2.2.2])] gt ?_
    refine zS 4 [(10, .bool false), (12, .cv (undef)), (14, .cv (undef))] [] ?_
    refine zB [(4, .bool false)] [] ?_
    refine AW.ret ?_
    obtain rfl := Option.some.inj h
    exact zR [] [] []

theorem hc_linealref02_within (lo : Int) (n : Int) (hi : Int) {r : Bool} (h : linealref02_within lo n hi = some r) : HC Try.prog 68 [] [.int .i64 lo, .int .i64 n, .int .i64 hi] [] (.bool r) := by
  unfold linealref02_within at h
  refine zH Try.func68 [.tmp 6] 15 ?_
  refine zo ?_
  refine zB [(0, .int .i64 lo), (1, .int .i64 n), (2, .int .i64 hi)] [] ?_
  refine zo ?_
  refine zS 4 [(1, .int .i64 n), (2, .int .i64 hi), (10, .bool (decide (lo ≤ n)))] [] ?_
  rcases zI h with ⟨hb1, h⟩ | ⟨hb1, h⟩
  ·
    refine zT [(1, .int .i64 n), (2, .int .i64 hi), (10, .bool true)] [] gt ?_
    refine zB [(6, .bool (decide (n ≤ hi)))] [] ?_
    refine AW.ret ?_
    obtain rfl := Option.some.inj h
    exact zR [] [] []
  ·
    refine zT [(1, .int .i64 n), (2, .int .i64 hi), (10, .bool false)] [] gt ?_
    refine zB [(6, .bool false)] [] ?_
    refine AW.ret ?_
    obtain rfl := Option.some.inj h
    exact zR [] [] []

theorem hc_linealref02_before (c : Int × Int × Int × Int × Int × Int) (d : Int × Int × Int × Int × Int × Int) {r : Bool} (h : linealref02_before c d = some r) : HC Try.prog 69 [] [.agg [.int .i64 c.1, .int .i64 c.2.1, .int .i64 c.2.2.1, .int .i64 c.2.2.2.1, .int .i64 c.2.2.2.2.1, .int .i64 c.2.2.2.2.2], .agg [.int .i64 d.1, .int .i64 d.2.1, .int .i64 d.2.2.1, .int .i64 d.2.2.2.1, .int .i64 d.2.2.2.2.1, .int .i64 d.2.2.2.2.2]] [] (.bool r) := by
  unfold linealref02_before at h
  refine zH Try.func69 [.tmp 4] 15 ?_
  refine zo ?_
  refine zB [(2, .bp 2 0), (3, .bp 3 0)] [(2, .box 55 [.int .i64 c.1, .int .i64 c.2.1, .int .i64 c.2.2.1, .int .i64 c.2.2.2.1, .int .i64 c.2.2.2.2.1, .int .i64 c.2.2.2.2.2]), (3, .box 55 [.int .i64 d.1, .int .i64 d.2.1, .int .i64 d.2.2.1, .int .i64 d.2.2.2.1, .int .i64 d.2.2.2.2.1, .int .i64 d.2.2.2.2.2])] ?_
  refine zo ?_
  refine zS 4 [(2, .bp 2 0), (3, .bp 3 0), (8, .bool (!(decide (c.2.2.2.2.2 = 0))))] [(2, .box 55 [.int .i64 c.1, .int .i64 c.2.1, .int .i64 c.2.2.1, .int .i64 c.2.2.2.1, .int .i64 c.2.2.2.2.1, .int .i64 c.2.2.2.2.2]), (3, .box 55 [.int .i64 d.1, .int .i64 d.2.1, .int .i64 d.2.2.1, .int .i64 d.2.2.2.1, .int .i64 d.2.2.2.2.1, .int .i64 d.2.2.2.2.2])] ?_
  rcases zI h with ⟨hb1, h⟩ | ⟨hb1, h⟩
  ·
    refine zT [(2, .bp 2 0), (3, .bp 3 0), (8, .bool true)] [(2, .box 55 [.int .i64 c.1, .int .i64 c.2.1, .int .i64 c.2.2.1, .int .i64 c.2.2.2.1, .int .i64 c.2.2.2.2.1, .int .i64 c.2.2.2.2.2]), (3, .box 55 [.int .i64 d.1, .int .i64 d.2.1, .int .i64 d.2.2.1, .int .i64 d.2.2.2.1, .int .i64 d.2.2.2.2.1, .int .i64 d.2.2.2.2.2])] gt ?_
    refine zB [(4, .bool (decide (c.2.2.2.2.2 < d.2.2.2.2.1)))] [] ?_
    refine AW.ret ?_
    obtain rfl := Option.some.inj h
    exact zR [] [] []
  ·
    refine zT [(2, .bp 2 0), (3, .bp 3 0), (8, .bool false)] [(2, .box 55 [.int .i64 c.1, .int .i64 c.2.1, .int .i64 c.2.2.1, .int .i64 c.2.2.2.1, .int .i64 c.2.2.2.2.1, .int .i64 c.2.2.2.2.2]), (3, .box 55 [.int .i64 d.1, .int .i64 d.2.1, .int .i64 d.2.2.1, .int .i64 d.2.2.2.1, .int .i64 d.2.2.2.2.1, .int .i64 d.2.2.2.2.2])] gt ?_
    refine zS 4 [(8, .bool false), (10, .cv (undef)), (12, .cv (undef))] [] ?_
    refine zB [(4, .bool false)] [] ?_
    refine AW.ret ?_
    obtain rfl := Option.some.inj h
    exact zR [] [] []

theorem hc_linealref02_meets (c : Int × Int × Int × Int × Int × Int) (d : Int × Int × Int × Int × Int × Int) {r : Bool} (h : linealref02_meets c d = some r) : HC Try.prog 72 [] [.agg [.int .i64 c.1, .int .i64 c.2.1, .int .i64 c.2.2.1, .int .i64 c.2.2.2.1, .int .i64 c.2.2.2.2.1, .int .i64 c.2.2.2.2.2], .agg [.int .i64 d.1, .int .i64 d.2.1, .int .i64 d.2.2.1, .int .i64 d.2.2.2.1, .int .i64 d.2.2.2.2.1, .int .i64 d.2.2.2.2.2]] [] (.bool r) := by
  unfold linealref02_meets at h
  refine zH Try.func72 [.tmp 4] 53 ?_
  refine zo ?_
  refine zB [(2, .bp 2 0), (3, .bp 3 0)] [(2, .box 55 [.int .i64 c.1, .int .i64 c.2.1, .int .i64 c.2.2.1, .int .i64 c.2.2.2.1, .int .i64 c.2.2.2.2.1, .int .i64 c.2.2.2.2.2]), (3, .box 55 [.int .i64 d.1, .int .i64 d.2.1, .int .i64 d.2.2.1, .int .i64 d.2.2.2.1, .int .i64 d.2.2.2.2.1, .int .i64 d.2.2.2.2.2])] ?_
  refine AW.have1 (fun _ : Unit => linealref02_meets_k1 c d = some r) (fun _ => ⟨fr [(2, .bp 2 0), (3, .bp 3 0)], hpGet [(2, .box 55 [.int .i64 c.1, .int .i64 c.2.1, .int .i64 c.2.2.1, .int .i64 c.2.2.2.1, .int .i64 c.2.2.2.2.1, .int .i64 c.2.2.2.2.2]), (3, .box 55 [.int .i64 d.1, .int .i64 d.2.1, .int .i64 d.2.2.1, .int .i64 d.2.2.2.1, .int .i64 d.2.2.2.2.1, .int .i64 d.2.2.2.2.2])], gt⟩) (fun _ h => ?_) (fun hk_linealref02_meets_k1 => ?_)
  · unfold linealref02_meets_k1 at h
    refine zo ?_
    refine zS 6 [(2, .bp 2 0), (3, .bp 3 0), (41, .bool (decide (c.1 = d.1)))] [(2, .box 55 [.int .i64 c.1, .int .i64 c.2.1, .int .i64 c.2.2.1, .int .i64 c.2.2.2.1, .int .i64 c.2.2.2.2.1, .int .i64 c.2.2.2.2.2]), (3, .box 55 [.int .i64 d.1, .int .i64 d.2.1, .int .i64 d.2.2.1, .int .i64 d.2.2.2.1, .int .i64 d.2.2.2.2.1, .int .i64 d.2.2.2.2.2])] ?_
    rcases zI h with ⟨hb1, h⟩ | ⟨hb1, h⟩
    ·
      refine zT [(2, .bp 2 0), (3, .bp 3 0), (41, .bool true)] [(2, .box 55 [.int .i64 c.1, .int .i64 c.2.1, .int .i64 c.2.2.1, .int .i64 c.2.2.2.1, .int .i64 c.2.2.2.2.1, .int .i64 c.2.2.2.2.2]), (3, .box 55 [.int .i64 d.1, .int .i64 d.2.1, .int .i64 d.2.2.1, .int .i64 d.2.2.2.1, .int .i64 d.2.2.2.2.1, .int .i64 d.2.2.2.2.2])] gt ?_
      refine zS 2 [(2, .bp 2 0), (3, .bp 3 0), (41, .bool true), (42, .agg [.int .i64 c.1, .int .i64 c.2.1, .int .i64 c.2.2.1, .int .i64 c.2.2.2.1, .int .i64 c.2.2.2.2.1, .int .i64 c.2.2.2.2.2]), (43, .agg [.int .i64 d.1, .int .i64 d.2.1, .int .i64 d.2.2.1, .int .i64 d.2.2.2.1, .int .i64 d.2.2.2.2.1, .int .i64 d.2.2.2.2.2])] [(2, .box 55 [.int .i64 c.1, .int .i64 c.2.1, .int .i64 c.2.2.1, .int .i64 c.2.2.2.1, .int .i64 c.2.2.2.2.1, .int .i64 c.2.2.2.2.2]), (3, .box 55 [.int .i64 d.1, .int .i64 d.2.1, .int .i64 d.2.2.1, .int .i64 d.2.2.2.1, .int .i64 d.2.2.2.2.1, .int .i64 d.2.2.2.2.2])] ?_
      obtain ⟨v0, hv2, h⟩ := Option.bind_eq_some_iff.1 h
      refine zG [] [] (hc_linealref02_before c d hv2) [(2, .bp 2 0), (3, .bp 3 0), (41, .bool true), (44, .bool v0)] [(2, .box 55 [.int .i64 c.1, .int .i64 c.2.1, .int .i64 c.2.2.1, .int .i64 c.2.2.2.1, .int .i64 c.2.2.2.2.1, .int .i64 c.2.2.2.2.2]), (3, .box 55 [.int .i64 d.1, .int .i64 d.2.1, .int .i64 d.2.2.1, .int .i64 d.2.2.2.1, .int .i64 d.2.2.2.2.1, .int .i64 d.2.2.2.2.2])] ?_
      refine zS 3 [(2, .bp 2 0), (3, .bp 3 0), (47, .bool (!v0))] [(2, .box 55 [.int .i64 c.1, .int .i64 c.2.1, .int .i64 c.2.2.1, .int .i64 c.2.2.2.1, .int .i64 c.2.2.2.2.1, .int .i64 c.2.2.2.2.2]), (3, .box 55 [.int .i64 d.1, .int .i64 d.2.1, .int .i64 d.2.2.1, .int .i64 d.2.2.2.1, .int .i64 d.2.2.2.2.1, .int .i64 d.2.2.2.2.2])] ?_
      rcases zI h with ⟨hb3, h⟩ | ⟨hb3, h⟩
      ·
        refine zT [(2, .bp 2 0), (3, .bp 3 0), (47, .bool true)] [(2, .box 55 [.int .i64 c.1, .int .i64 c.2.1, .int .i64 c.2.2.1, .int .i64 c.2.2.2.1, .int .i64 c.2.2.2.2.1, .int .i64 c.2.2.2.2.2]), (3, .box 55 [.int .i64 d.1, .int .i64 d.2.1, .int .i64 d.2.2.1, .int .i64 d.2.2.2.1, .int .i64 d.2.2.2.2.1, .int .i64 d.2.2.2.2.2])] gt ?_
        refine zS 2 [(47, .bool true), (48, .agg [.int .i64 d.1, .int .i64 d.2.1, .int .i64 d.2.2.1, .int .i64 d.2.2.2.1, .int .i64 d.2.2.2.2.1, .int .i64 d.2.2.2.2.2]), (49, .agg [.int .i64 c.1, .int .i64 c.2.1, .int .i64 c.2.2.1, .int .i64 c.2.2.2.1, .int .i64 c.2.2.2.2.1, .int .i64 c.2.2.2.2.2])] [] ?_
        obtain ⟨v0_2, hv4, h⟩ := Option.bind_eq_some_iff.1 h
        refine zG [] [] (hc_linealref02_before d c hv4) [(47, .bool true), (50, .bool v0_2)] [] ?_
        refine zB [(4, .bool (!v0_2))] [] ?_
        refine AW.ret ?_
        obtain rfl := Option.some.inj h
        exact zR [] [] []
      ·
        refine zT [(2, .bp 2 0), (3, .bp 3 0), (47, .bool false)] [(2, .box 55 [.int .i64 c.1, .int .i64 c.2.1, .int .i64 c.2.2.1, .int .i64 c.2.2.2.1, .int .i64 c.2.2.2.2.1, .int .i64 c.2.2.2.2.2]), (3, .box 55 [.int .i64 d.1, .int .i64 d.2.1, .int .i64 d.2.2.1, .int .i64 d.2.2.2.1, .int .i64 d.2.2.2.2.1, .int .i64 d.2.2.2.2.2])] gt ?_
        refine zS 4 [(47, .bool false), (51, .cv (undef))] [] ?_
        refine zB [(4, .bool false)] [] ?_
        refine AW.ret ?_
        obtain rfl := Option.some.inj h
        exact zR [] [] []
    ·
      refine zT [(2, .bp 2 0), (3, .bp 3 0), (41, .bool false)] [(2, .box 55 [.int .i64 c.1, .int .i64 c.2.1, .int .i64 c.2.2.1, .int .i64 c.2.2.2.1, .int .i64 c.2.2.2.2.1, .int .i64 c.2.2.2.2.2]), (3, .box 55 [.int .i64 d.1, .int .i64 d.2.1, .int .i64 d.2.2.1, .int .i64 d.2.2.2.1, .int .i64 d.2.2.2.2.1, .int .i64 d.2.2.2.2.2])] gt ?_
      refine zS 4 [(2, .bp 2 0), (3, .bp 3 0), (41, .bool false), (45, .cv (undef))] [(2, .box 55 [.int .i64 c.1, .int .i64 c.2.1, .int .i64 c.2.2.1, .int .i64 c.2.2.2.1, .int .i64 c.2.2.2.2.1, .int .i64 c.2.2.2.2.2]), (3, .box 55 [.int .i64 d.1, .int .i64 d.2.1, .int .i64 d.2.2.1, .int .i64 d.2.2.2.1, .int .i64 d.2.2.2.2.1, .int .i64 d.2.2.2.2.2])] ?_
      refine zS 6 [(47, .bool false), (51, .cv (undef))] [] ?_
      refine zB [(4, .bool false)] [] ?_
      refine AW.ret ?_
      obtain rfl := Option.some.inj h
      exact zR [] [] []
  · refine AW.seq ?_
    refine zo ?_
    refine zS 6 [(2, .bp 2 0), (3, .bp 3 0), (10, .bool (decide (c.2.2.2.2.1 = d.2.2.2.2.1)))] [(2, .box 55 [.int .i64 c.1, .int .i64 c.2.1, .int .i64 c.2.2.1, .int .i64 c.2.2.2.1, .int .i64 c.2.2.2.2.1, .int .i64 c.2.2.2.2.2]), (3, .box 55 [.int .i64 d.1, .int .i64 d.2.1, .int .i64 d.2.2.1, .int .i64 d.2.2.2.1, .int .i64 d.2.2.2.2.1, .int .i64 d.2.2.2.2.2])] ?_
    rcases zI h with ⟨hb5, h⟩ | ⟨hb5, h⟩
    ·
      refine zT [(2, .bp 2 0), (3, .bp 3 0), (10, .bool true)] [(2, .box 55 [.int .i64 c.1, .int .i64 c.2.1, .int .i64 c.2.2.1, .int .i64 c.2.2.2.1, .int .i64 c.2.2.2.2.1, .int .i64 c.2.2.2.2.2]), (3, .box 55 [.int .i64 d.1, .int .i64 d.2.1, .int .i64 d.2.2.1, .int .i64 d.2.2.2.1, .int .i64 d.2.2.2.2.1, .int .i64 d.2.2.2.2.2])] gt ?_
      refine zS 4 [(2, .bp 2 0), (3, .bp 3 0), (10, .bool true), (12, .cv (undef)), (14, .cv (undef))] [(2, .box 55 [.int .i64 c.1, .int .i64 c.2.1, .int .i64 c.2.2.1, .int .i64 c.2.2.2.1, .int .i64 c.2.2.2.2.1, .int .i64 c.2.2.2.2.2]), (3, .box 55 [.int .i64 d.1, .int .i64 d.2.1, .int .i64 d.2.2.1, .int .i64 d.2.2.2.1, .int .i64 d.2.2.2.2.1, .int .i64 d.2.2.2.2.2])] ?_
      refine zS 6 [(2, .bp 2 0), (3, .bp 3 0), (17, .bool true), (19, .cv (undef)), (20, .cv (undef))] [(2, .box 55 [.int .i64 c.1, .int .i64 c.2.1, .int .i64 c.2.2.1, .int .i64 c.2.2.2.1, .int .i64 c.2.2.2.2.1, .int .i64 c.2.2.2.2.2]), (3, .box 55 [.int .i64 d.1, .int .i64 d.2.1, .int .i64 d.2.2.1, .int .i64 d.2.2.2.1, .int .i64 d.2.2.2.2.1, .int .i64 d.2.2.2.2.2])] ?_
      refine zS 6 [(2, .bp 2 0), (3, .bp 3 0), (24, .bool true), (26, .cv (undef))] [(2, .box 55 [.int .i64 c.1, .int .i64 c.2.1, .int .i64 c.2.2.1, .int .i64 c.2.2.2.1, .int .i64 c.2.2.2.2.1, .int .i64 c.2.2.2.2.2]), (3, .box 55 [.int .i64 d.1, .int .i64 d.2.1, .int .i64 d.2.2.1, .int .i64 d.2.2.2.1, .int .i64 d.2.2.2.2.1, .int .i64 d.2.2.2.2.2])] ?_
      refine zS 4 [(2, .bp 2 0), (3, .bp 3 0), (24, .bool true), (28, .cv (undef)), (30, .cv (undef))] [(2, .box 55 [.int .i64 c.1, .int .i64 c.2.1, .int .i64 c.2.2.1, .int .i64 c.2.2.2.1, .int .i64 c.2.2.2.2.1, .int .i64 c.2.2.2.2.2]), (3, .box 55 [.int .i64 d.1, .int .i64 d.2.1, .int .i64 d.2.2.1, .int .i64 d.2.2.2.1, .int .i64 d.2.2.2.2.1, .int .i64 d.2.2.2.2.2])] ?_
      refine zS 4 [(2, .bp 2 0), (3, .bp 3 0), (24, .bool true), (34, .cv (undef))] [(2, .box 55 [.int .i64 c.1, .int .i64 c.2.1, .int .i64 c.2.2.1, .int .i64 c.2.2.2.1, .int .i64 c.2.2.2.2.1, .int .i64 c.2.2.2.2.2]), (3, .box 55 [.int .i64 d.1, .int .i64 d.2.1, .int .i64 d.2.2.1, .int .i64 d.2.2.2.1, .int .i64 d.2.2.2.2.1, .int .i64 d.2.2.2.2.2])] ?_
      refine zB [(2, .bp 2 0), (3, .bp 3 0), (35, .bool true)] [(2, .box 55 [.int .i64 c.1, .int .i64 c.2.1, .int .i64 c.2.2.1, .int .i64 c.2.2.2.1, .int .i64 c.2.2.2.2.1, .int .i64 c.2.2.2.2.2]), (3, .box 55 [.int .i64 d.1, .int .i64 d.2.1, .int .i64 d.2.2.1, .int .i64 d.2.2.2.1, .int .i64 d.2.2.2.2.1, .int .i64 d.2.2.2.2.2])] ?_
      refine AW.cond (b := true) rfl (fun _ => ?_) (fun hb6 => by cases hb6)
      refine zo ?_
      refine zB [(4, .bool true)] [] ?_
      refine zr ?_
      obtain rfl := Option.some.inj h
      exact zR [] [] []
    ·
      refine zT [(2, .bp 2 0), (3, .bp 3 0), (10, .bool false)] [(2, .box 55 [.int .i64 c.1, .int .i64 c.2.1, .int .i64 c.2.2.1, .int .i64 c.2.2.2.1, .int .i64 c.2.2.2.2.1, .int .i64 c.2.2.2.2.2]), (3, .box 55 [.int .i64 d.1, .int .i64 d.2.1, .int .i64 d.2.2.1, .int .i64 d.2.2.2.1, .int .i64 d.2.2.2.2.1, .int .i64 d.2.2.2.2.2])] gt ?_
      refine zS 7 [(2, .bp 2 0), (3, .bp 3 0), (17, .bool (decide (c.2.2.2.2.1 = d.2.2.2.2.2)))] [(2, .box 55 [.int .i64 c.1, .int .i64 c.2.1, .int .i64 c.2.2.1, .int .i64 c.2.2.2.1, .int .i64 c.2.2.2.2.1, .int .i64 c.2.2.2.2.2]), (3, .box 55 [.int .i64 d.1, .int .i64 d.2.1, .int .i64 d.2.2.1, .int .i64 d.2.2.2.1, .int .i64 d.2.2.2.2.1, .int .i64 d.2.2.2.2.2])] ?_
      rcases zI h with ⟨hb7, h⟩ | ⟨hb7, h⟩
      ·
        refine zT [(2, .bp 2 0), (3, .bp 3 0), (17, .bool true)] [(2, .box 55 [.int .i64 c.1, .int .i64 c.2.1, .int .i64 c.2.2.1, .int .i64 c.2.2.2.1, .int .i64 c.2.2.2.2.1, .int .i64 c.2.2.2.2.2]), (3, .box 55 [.int .i64 d.1, .int .i64 d.2.1, .int .i64 d.2.2.1, .int .i64 d.2.2.2.1, .int .i64 d.2.2.2.2.1, .int .i64 d.2.2.2.2.2])] gt ?_
        refine zS 4 [(2, .bp 2 0), (3, .bp 3 0), (17, .bool true), (19, .cv (undef)), (21, .cv (undef))] [(2, .box 55 [.int .i64 c.1, .int .i64 c.2.1, .int .i64 c.2.2.1, .int .i64 c.2.2.2.1, .int .i64 c.2.2.2.2.1, .int .i64 c.2.2.2.2.2]), (3, .box 55 [.int .i64 d.1, .int .i64 d.2.1, .int .i64 d.2.2.1, .int .i64 d.2.2.2.1, .int .i64 d.2.2.2.2.1, .int .i64 d.2.2.2.2.2])] ?_
        refine zS 6 [(2, .bp 2 0), (3, .bp 3 0), (24, .bool true), (27, .cv (undef))] [(2, .box 55 [.int .i64 c.1, .int .i64 c.2.1, .int .i64 c.2.2.1, .int .i64 c.2.2.2.1, .int .i64 c.2.2.2.2.1, .int .i64 c.2.2.2.2.2]), (3, .box 55 [.int .i64 d.1, .int .i64 d.2.1, .int .i64 d.2.2.1, .int .i64 d.2.2.2.1, .int .i64 d.2.2.2.2.1, .int .i64 d.2.2.2.2.2])] ?_
        refine zS 4 [(2, .bp 2 0), (3, .bp 3 0), (24, .bool true), (28, .cv (undef)), (30, .cv (undef)), (31, .cv (undef))] [(2, .box 55 [.int .i64 c.1, .int .i64 c.2.1, .int .i64 c.2.2.1, .int .i64 c.2.2.2.1, .int .i64 c.2.2.2.2.1, .int .i64 c.2.2.2.2.2]), (3, .box 55 [.int .i64 d.1, .int .i64 d.2.1, .int .i64 d.2.2.1, .int .i64 d.2.2.2.1, .int .i64 d.2.2.2.2.1, .int .i64 d.2.2.2.2.2])] ?_
        refine zB [(2, .bp 2 0), (3, .bp 3 0), (35, .bool true)] [(2, .box 55 [.int .i64 c.1, .int .i64 c.2.1, .int .i64 c.2.2.1, .int .i64 c.2.2.2.1, .int .i64 c.2.2.2.2.1, .int .i64 c.2.2.2.2.2]), (3, .box 55 [.int .i64 d.1, .int .i64 d.2.1, .int .i64 d.2.2.1, .int .i64 d.2.2.2.1, .int .i64 d.2.2.2.2.1, .int .i64 d.2.2.2.2.2])] ?_
        refine AW.cond (b := true) rfl (fun _ => ?_) (fun hb8 => by cases hb8)
        refine zo ?_
        refine zB [(4, .bool true)] [] ?_
        refine zr ?_
        obtain rfl := Option.some.inj h
        exact zR [] [] []
      ·
        refine zT [(2, .bp 2 0), (3, .bp 3 0), (17, .bool false)] [(2, .box 55 [.int .i64 c.1, .int .i64 c.2.1, .int .i64 c.2.2.1, .int .i64 c.2.2.2.1, .int .i64 c.2.2.2.2.1, .int .i64 c.2.2.2.2.2]), (3, .box 55 [.int .i64 d.1, .int .i64 d.2.1, .int .i64 d.2.2.1, .int .i64 d.2.2.2.1, .int .i64 d.2.2.2.2.1, .int .i64 d.2.2.2.2.2])] gt ?_
        refine zS 7 [(2, .bp 2 0), (3, .bp 3 0), (24, .bool (decide (c.2.2.2.2.2 = d.2.2.2.2.1)))] [(2, .box 55 [.int .i64 c.1, .int .i64 c.2.1, .int .i64 c.2.2.1, .int .i64 c.2.2.2.1, .int .i64 c.2.2.2.2.1, .int .i64 c.2.2.2.2.2]), (3, .box 55 [.int .i64 d.1, .int .i64 d.2.1, .int .i64 d.2.2.1, .int .i64 d.2.2.2.1, .int .i64 d.2.2.2.2.1, .int .i64 d.2.2.2.2.2])] ?_
        rcases zI h with ⟨hb9, h⟩ | ⟨hb9, h⟩
        ·
          refine zT [(2, .bp 2 0), (3, .bp 3 0), (24, .bool true)] [(2, .box 55 [.int .i64 c.1, .int .i64 c.2.1, .int .i64 c.2.2.1, .int .i64 c.2.2.2.1, .int .i64 c.2.2.2.2.1, .int .i64 c.2.2.2.2.2]), (3, .box 55 [.int .i64 d.1, .int .i64 d.2.1, .int .i64 d.2.2.1, .int .i64 d.2.2.2.1, .int .i64 d.2.2.2.2.1, .int .i64 d.2.2.2.2.2])] gt ?_
          refine zS 4 [(2, .bp 2 0), (3, .bp 3 0), (24, .bool true), (28, .cv (undef))] [(2, .box 55 [.int .i64 c.1, .int .i64 c.2.1, .int .i64 c.2.2.1, .int .i64 c.2.2.2.1, .int .i64 c.2.2.2.2.1, .int .i64 c.2.2.2.2.2]), (3, .box 55 [.int .i64 d.1, .int .i64 d.2.1, .int .i64 d.2.2.1, .int .i64 d.2.2.2.1, .int .i64 d.2.2.2.2.1, .int .i64 d.2.2.2.2.2])] ?_
          refine zS 4 [(2, .bp 2 0), (3, .bp 3 0), (24, .bool true), (28, .cv (undef)), (30, .cv (undef)), (32, .cv (undef))] [(2, .box 55 [.int .i64 c.1, .int .i64 c.2.1, .int .i64 c.2.2.1, .int .i64 c.2.2.2.1, .int .i64 c.2.2.2.2.1, .int .i64 c.2.2.2.2.2]), (3, .box 55 [.int .i64 d.1, .int .i64 d.2.1, .int .i64 d.2.2.1, .int .i64 d.2.2.2.1, .int .i64 d.2.2.2.2.1, .int .i64 d.2.2.2.2.2])] ?_
          refine zB [(2, .bp 2 0), (3, .bp 3 0), (35, .bool true)] [(2, .box 55 [.int .i64 c.1, .int .i64 c.2.1, .int .i64 c.2.2.1, .int .i64 c.2.2.2.1, .int .i64 c.2.2.2.2.1, .int .i64 c.2.2.2.2.2]), (3, .box 55 [.int .i64 d.1, .int .i64 d.2.1, .int .i64 d.2.2.1, .int .i64 d.2.2.2.1, .int .i64 d.2.2.2.2.1, .int .i64 d.2.2.2.2.2])] ?_
          refine AW.cond (b := true) rfl (fun _ => ?_) (fun hb10 => by cases hb10)
          refine zo ?_
          refine zB [(4, .bool true)] [] ?_
          refine zr ?_
          obtain rfl := Option.some.inj h
          exact zR [] [] []
        ·
          refine zT [(2, .bp 2 0), (3, .bp 3 0), (24, .bool false)] [(2, .box 55 [.int .i64 c.1, .int .i64 c.2.1, .int .i64 c.2.2.1, .int .i64 c.2.2.2.1, .int .i64 c.2.2.2.2.1, .int .i64 c.2.2.2.2.2]), (3, .box 55 [.int .i64 d.1, .int .i64 d.2.1, .int .i64 d.2.2.1, .int .i64 d.2.2.2.1, .int .i64 d.2.2.2.2.1, .int .i64 d.2.2.2.2.2])] gt ?_
          refine zS 4 [(2, .bp 2 0), (3, .bp 3 0), (24, .bool false), (28, .bool (!(decide (c.2.2.2.2.2 = 0))))] [(2, .box 55 [.int .i64 c.1, .int .i64 c.2.1, .int .i64 c.2.2.1, .int .i64 c.2.2.2.1, .int .i64 c.2.2.2.2.1, .int .i64 c.2.2.2.2.2]), (3, .box 55 [.int .i64 d.1, .int .i64 d.2.1, .int .i64 d.2.2.1, .int .i64 d.2.2.2.1, .int .i64 d.2.2.2.2.1, .int .i64 d.2.2.2.2.2])] ?_
          rcases zI h with ⟨hb11, h⟩ | ⟨hb11, h⟩
          ·
            refine zT [(2, .bp 2 0), (3, .bp 3 0), (24, .bool false), (28, .bool true)] [(2, .box 55 [.int .i64 c.1, .int .i64 c.2.1, .int .i64 c.2.2.1, .int .i64 c.2.2.2.1, .int .i64 c.2.2.2.2.1, .int .i64 c.2.2.2.2.2]), (3, .box 55 [.int .i64 d.1, .int .i64 d.2.1, .int .i64 d.2.2.1, .int .i64 d.2.2.2.1, .int .i64 d.2.2.2.2.1, .int .i64 d.2.2.2.2.2])] gt ?_
            refine zB [(2, .bp 2 0), (3, .bp 3 0), (35, .bool (decide (c.2.2.2.2.2 = d.2.2.2.2.2)))] [(2, .box 55 [.int .i64 c.1, .int .i64 c.2.1, .int .i64 c.2.2.1, .int .i64 c.2.2.2.1, .int .i64 c.2.2.2.2.1, .int .i64 c.2.2.2.2.2]), (3, .box 55 [.int .i64 d.1, .int .i64 d.2.1, .int .i64 d.2.2.1, .int .i64 d.2.2.2.1, .int .i64 d.2.2.2.2.1, .int .i64 d.2.2.2.2.2])] ?_
            refine zQ h (fun hb12 h => ?_) (fun hb12 h => ?_)
            ·
              refine zo ?_
              refine zB [(4, .bool true)] [] ?_
              refine zr ?_
              obtain rfl := Option.some.inj h
              exact zR [] [] []
            ·
              refine zk ?_
              exact AW.weaken (zL [] [] []) (hk_linealref02_meets_k1 () h)
          ·
            refine zT [(2, .bp 2 0), (3, .bp 3 0), (24, .bool false), (28, .bool false)] [(2, .box 55 [.int .i64 c.1, .int .i64 c.2.1, .int .i64 c.2.2.1, .int .i64 c.2.2.2.1, .int .i64 c.2.2.2.2.1, .int .i64 c.2.2.2.2.2]), (3, .box 55 [.int .i64 d.1, .int .i64 d.2.1, .int .i64 d.2.2.1, .int .i64 d.2.2.2.1, .int .i64 d.2.2.2.2.1, .int .i64 d.2.2.2.2.2])] gt ?_
            refine zS 4 [(2, .bp 2 0), (3, .bp 3 0), (24, .bool false), (28, .bool false), (30, .cv (undef)), (32, .cv (undef))] [(2, .box 55 [.int .i64 c.1, .int .i64 c.2.1, .int .i64 c.2.2.1, .int .i64 c.2.2.2.1, .int .i64 c.2.2.2.2.1, .int .i64 c.2.2.2.2.2]), (3, .box 55 [.int .i64 d.1, .int .i64 d.2.1, .int .i64 d.2.2.1, .int .i64 d.2.2.2.1, .int .i64 d.2.2.2.2.1, .int .i64 d.2.2.2.2.2])] ?_
            refine zB [(2, .bp 2 0), (3, .bp 3 0), (35, .bool false)] [(2, .box 55 [.int .i64 c.1, .int .i64 c.2.1, .int .i64 c.2.2.1, .int .i64 c.2.2.2.1, .int .i64 c.2.2.2.2.1, .int .i64 c.2.2.2.2.2]), (3, .box 55 [.int .i64 d.1, .int .i64 d.2.1, .int .i64 d.2.2.1, .int .i64 d.2.2.2.1, .int .i64 d.2.2.2.2.1, .int .i64 d.2.2.2.2.2])] ?_
            refine AW.cond (b := false) rfl (fun hb13 => by cases hb13) (fun _ => ?_)
            refine zk ?_
            exact AW.weaken (zL [] [] []) (hk_linealref02_meets_k1 () h)

end Go.Proofs.Ytlfpagicagmjgaa
