/-
  Made by wip/tool/dc.py out of the print of the program: contracts.
-/
import Derived.Test.YtcijihofjcfpoabWp
import Derived.Test.YtcijihofjcfpoabTb3
import Derived.Test.YtcijihofjcfpoabXec1
import Derived.Test.YtcijihofjcfpoabXec2
import Derived.Test.YtcijihofjcfpoabXec3
import Derived.Test.YtcijihofjcfpoabXec4
namespace Go.Proofs.Ytcijihofjcfpoab
open Go.RowKit

set_option linter.unusedSimpArgs false
set_option linter.unusedVariables false
set_option linter.constructorNameAsVariable false

set_option maxRecDepth 100000 in
set_option maxHeartbeats 2000000 in
theorem hc_weave_ties_splitF (slf : ((El T59)) → (List Int) → (List Int) → Option ((List Int) × (List Int) × (List Int))) (hc_slf : ∀ (t : (El T59)) (w : List Int) (v0 : List Int) {r : (List Int) × (List Int) × (List Int)}, slf t w v0 = some r → HC Try.prog 86 [] [.agg (cellsX T59 t), .sl (.int .i64) w, .sl (.int .i64) v0] [(2000, .arr 3 (.int .i64) r.1)] (.tup [.own 2000, .sl (.int .i64) r.2.1, .sl (.int .i64) r.2.2])) (t : (El T59)) (w : List Int) (v0 : List Int) {r : (List Int) × (List Int) × (List Int)} (h : weave_ties_splitF slf t w v0 = some r) : HC Try.prog 86 [] [.agg (cellsX T59 t), .sl (.int .i64) w, .sl (.int .i64) v0] [(2000, .arr 3 (.int .i64) r.1)] (.tup [.own 2000, .sl (.int .i64) r.2.1, .sl (.int .i64) r.2.2]) := by
  unfold weave_ties_splitF at h
  refine HC.of_body tab_ok (res := [.cell 6 25, .cell 7 25, .cell 8 25]) Try.func86 rfl (by kernel_rfl) rfl (nt := 42) rfl (by decide) (by simp) ?_
  refine AW.seq ?_
  refine AW.ops ?_
  refine AO.allF tab_ok (by decide) [(1, .sl (.int .i64) w), (3, .bp 3 0), (5, .bp 5 0), (6, .bp 6 0), (7, .bp 7 0), (8, .bp 8 0)] [(3, .box 59 (cellsX T59 t)), (5, .box 25 [.sl (.int .i64) v0]), (6, .box 25 [.cv (.slice none 0 0)]), (7, .box 25 [.cv (.slice none 0 0)]), (8, .box 25 [.cv (.slice none 0 0)])] (by (simp only [go_sem]) <;> (repeat' with_reducible apply And.intro) <;> first | assumption | rfl | omega | (unfold maxLen; omega)) ?_
  refine athen_n ?_
  refine AW.have1 (fun _ : Unit => weave_ties_split_k1 w v0 = some r) (fun _ => ⟨fr [(1, .sl (.int .i64) w), (5, .bp 5 0), (6, .bp 6 0), (7, .bp 7 0), (8, .bp 8 0)], hpGet [(5, .box 25 [.sl (.int .i64) v0]), (6, .box 25 [.cv (.slice none 0 0)]), (7, .box 25 [.cv (.slice none 0 0)]), (8, .box 25 [.cv (.slice none 0 0)])], gt⟩) (fun _ h => ?_) (fun hk_weave_ties_split_k1 => ?_)
  · unfold weave_ties_split_k1 at h
    refine AW.seq ?_
    refine AW.draw tab_ok mixed_ok [(2, [6]), (3, [7]), (4, [8])] [(0, []), (1, [5]), (100002, []), (100003, []), (100004, [])] (by decide) (by kernel_rfl) ?_
    refine adops_cut 5 (fun K' hK1 => ?_)
    try dsimp only [List.drop_succ_cons, List.drop_zero, List.take_succ_cons, List.take_zero]
    simp only [go_sem]
    repeat (with_reducible refine And.intro (by first | assumption | rfl | omega | trivial | (unfold maxLen; omega)) ?_)
    refine hK1 _ ?_
    refine adops_nil ?_
    refine athen_n ?_
    refine AW.weaken (s' := ⟨fr [(6, .bp 6 0), (7, .bp 7 0), (8, .bp 8 0)], hpGet [(6, .box 25 [.cv (.slice none 0 0)]), (7, .box 25 [.sl (.int .i64) w]), (8, .box 25 [.sl (.int .i64) v0])], gt⟩) (Wk.to (by (simp only [go_sem]) <;> (repeat' with_reducible apply And.intro) <;> first | assumption | rfl | omega | (unfold maxLen; omega))) ?_
    refine AW.ret ?_
    obtain rfl := Option.some.inj h
    exact ⟨rfl, [], [2000], [], rfl, (by (simp only [go_sem]) <;> (repeat' with_reducible apply And.intro) <;> first | assumption | rfl | omega | (unfold maxLen; omega))⟩
  · refine AW.seq ?_
    refine AW.seq ?_
    refine AW.ops ?_
    refine AO.segF tab_ok 2 (by decide) [(1, .sl (.int .i64) w), (3, .bp 3 0), (5, .bp 5 0), (6, .bp 6 0), (7, .bp 7 0), (8, .bp 8 0), (13, .agg (cellsX T59 t)), (14, .sl (.int .i64) w)] [(3, .box 59 (cellsX T59 t)), (5, .box 25 [.sl (.int .i64) v0]), (6, .box 25 [.cv (.slice none 0 0)]), (7, .box 25 [.cv (.slice none 0 0)]), (8, .box 25 [.cv (.slice none 0 0)])] (by (simp only [go_sem]) <;> (repeat' with_reducible apply And.intro) <;> first | assumption | rfl | omega | (unfold maxLen; omega)) ?_
    obtain ⟨v0_2, hv2, h⟩ := Option.bind_eq_some_iff.1 h
    refine AO.call tab_ok (by decide) rfl rfl rfl (fun _ h => h) [] [] (hc_weave_ties_starts t w hv2) rfl (by (simp only [go_sem]) <;> (repeat' with_reducible apply And.intro) <;> first | assumption | rfl | omega | (unfold maxLen; omega)) (by (simp only [go_sem]) <;> (repeat' with_reducible apply And.intro) <;> first | assumption | rfl | omega | (unfold maxLen; omega)) [(1, .sl (.int .i64) w), (3, .bp 3 0), (5, .bp 5 0), (6, .bp 6 0), (7, .bp 7 0), (8, .bp 8 0), (15, .fn (.func 94) [] [.bp 25000 0, .bp 25001 0])] [(3, .box 59 (cellsX T59 t)), (5, .box 25 [.sl (.int .i64) v0]), (6, .box 25 [.cv (.slice none 0 0)]), (7, .box 25 [.cv (.slice none 0 0)]), (8, .box 25 [.cv (.slice none 0 0)]), (25000, .box 59 (cellsX T59 t)), (25001, .box 25 [.sl (.int .i64) w])] (by (simp only [go_sem]) <;> (repeat' with_reducible apply And.intro) <;> first | assumption | rfl | omega | (unfold maxLen; omega)) ?_
    refine AO.allF tab_ok (by decide) [(1, .sl (.int .i64) w), (3, .bp 3 0), (5, .bp 5 0), (6, .bp 6 0), (7, .bp 7 0), (8, .bp 8 0), (15, .fn (.func 94) [] [.bp 25000 0, .bp 25001 0])] [(3, .box 59 (cellsX T59 t)), (5, .box 25 [.sl (.int .i64) v0]), (6, .box 25 [.cv (.slice none 0 0)]), (7, .box 25 [.cv (.slice none 0 0)]), (8, .box 25 [.cv (.slice none 0 0)]), (25000, .box 59 (cellsX T59 t)), (25001, .box 25 [.sl (.int .i64) w])] (by (simp only [go_sem]) <;> (repeat' with_reducible apply And.intro) <;> first | assumption | rfl | omega | (unfold maxLen; omega)) ?_
    refine athen_n ?_
    refine AW.block ?_
    obtain ⟨x3, hx4, h⟩ := Option.bind_eq_some_iff.1 h
    refine AW.weaken (s' := ⟨fr [(1, .sl (.int .i64) w), (3, .bp 3 0), (5, .bp 5 0), (6, .bp 6 0), (7, .bp 7 0), (8, .bp 8 0), (15, .fn (.func 94) [] [.bp 25000 0, .bp 25001 0])], hpGet ([(25000, .box 59 (cellsX T59 t)), (25001, .box 25 [.sl (.int .i64) w])] ++ [(3, .box 59 (cellsX T59 t)), (5, .box 25 [.sl (.int .i64) v0]), (6, .box 25 [.cv (.slice none 0 0)]), (7, .box 25 [.cv (.slice none 0 0)]), (8, .box 25 [.cv (.slice none 0 0)])]), gt⟩) (Wk.le [] [] [] rfl (by (simp only [go_sem]) <;> (repeat' with_reducible apply And.intro) <;> first | assumption | rfl | omega | (unfold maxLen; omega)) (by (simp only [go_sem]) <;> (repeat' with_reducible apply And.intro) <;> first | assumption | rfl | omega | (unfold maxLen; omega))) ?_
    refine AW.rangeF (R := (List Int) × (List Int) × (List Int)) (l0 := [(1, .sl (.int .i64) w), (3, .bp 3 0), (5, .bp 5 0), (6, .bp 6 0), (7, .bp 7 0), (8, .bp 8 0)]) (hI := [(25000, .box 59 (cellsX T59 t)), (25001, .box 25 [.sl (.int .i64) w])]) (h0 := fun (st1 : Unit) => [(3, .box 59 (cellsX T59 t)), (5, .box 25 [.sl (.int .i64) v0]), (6, .box 25 [.cv (.slice none 0 0)]), (7, .box 25 [.cv (.slice none 0 0)]), (8, .box 25 [.cv (.slice none 0 0)])]) (gg := fun (st1 : Unit) => gt) (hx0 := (fun (r1 : (List Int) × (List Int) × (List Int)) => [(3, .box 59 (cellsX T59 t)), (5, .box 25 [.sl (.int .i64) v0]), (6, .box 25 [.own 37]), (7, .box 25 [.sl (.int .i64) r1.2.1]), (8, .box 25 [.sl (.int .i64) r1.2.2]), (37, .arr 3 (.int .i64) r1.1)])) (gx := (fun (r1 : (List Int) × (List Int) × (List Int)) => gt)) (ex := (fun (r1 : (List Int) × (List Int) × (List Int)) => Exit.ret)) () [(25000, 1000), (25001, 1001)] [(1000, 25000), (1001, 25001)] [(3, 1900), (5, 1901), (6, 1902), (7, 1903), (8, 1904)] [(1900, 3), (1901, 5), (1902, 6), (1903, 7), (1904, 8)] (by decide) rfl (by first | exact (ic_weave_ties_starts_1 t w (weave_ties_split_y1 slf t v0) () hx4) | simpa only [go_sem] using (ic_weave_ties_starts_1 t w (weave_ties_split_y1 slf t v0) () hx4)) (by (simp only [go_sem]) <;> (repeat' with_reducible apply And.intro) <;> first | assumption | rfl | omega | (unfold maxLen; omega)) rfl rfl rfl (fun _ => rfl) rfl (fun _ => rfl) rfl (fun _ => rfl) (fun _ => rfl) (fun _ => rfl) (fun _ => rfl) rfl (fun _ _ => by first | rfl | (exact (hΓ _).trans (hΓ _).symm) | (exact (hΓx _).trans (hΓ _).symm)) (fun _ _ => by first | rfl | (exact (hΓ _).trans (hΓ _).symm) | (exact (hΓx _).trans (hΓ _).symm)) ?_ ?_
    · intro lpy1 y1 st1 x5 h
      unfold weave_ties_split_y1 at h
      refine AW.weaken (s' := ⟨fr [(1, .sl (.int .i64) w), (3, .bp 1900 0), (5, .bp 1901 0), (6, .bp 1902 0), (7, .bp 1903 0), (8, .bp 1904 0), (16, .int .i64 y1.1), (17, .sl (.int .i64) y1.2)], hpGet [(1900, .box 59 (cellsX T59 t)), (1901, .box 25 [.sl (.int .i64) v0]), (1902, .box 25 [.cv (.slice none 0 0)]), (1903, .box 25 [.cv (.slice none 0 0)]), (1904, .box 25 [.cv (.slice none 0 0)])], gt⟩) (Wk.to (by (simp only [go_sem]) <;> (repeat' with_reducible apply And.intro) <;> first | assumption | rfl | omega | (unfold maxLen; omega))) ?_
      refine AW.seq ?_
      refine AW.ops ?_
      refine AO.allF tab_ok (by decide) [(1, .sl (.int .i64) w), (3, .bp 1900 0), (5, .bp 1901 0), (6, .bp 1902 0), (7, .bp 1903 0), (8, .bp 1904 0), (9, .int .i64 y1.1), (17, .sl (.int .i64) y1.2)] [(1900, .box 59 (cellsX T59 t)), (1901, .box 25 [.sl (.int .i64) v0]), (1902, .box 25 [.cv (.slice none 0 0)]), (1903, .box 25 [.cv (.slice none 0 0)]), (1904, .box 25 [.cv (.slice none 0 0)])] (by (simp only [go_sem]) <;> (repeat' with_reducible apply And.intro) <;> first | assumption | rfl | omega | (unfold maxLen; omega)) ?_
      refine athen_n ?_
      refine AW.ops ?_
      refine AO.allF tab_ok (by decide) [(1, .sl (.int .i64) w), (3, .bp 1900 0), (5, .bp 1901 0), (6, .bp 1902 0), (7, .bp 1903 0), (8, .bp 1904 0), (9, .int .i64 y1.1), (10, .sl (.int .i64) y1.2)] [(1900, .box 59 (cellsX T59 t)), (1901, .box 25 [.sl (.int .i64) v0]), (1902, .box 25 [.cv (.slice none 0 0)]), (1903, .box 25 [.cv (.slice none 0 0)]), (1904, .box 25 [.cv (.slice none 0 0)])] (by (simp only [go_sem]) <;> (repeat' with_reducible apply And.intro) <;> first | assumption | rfl | omega | (unfold maxLen; omega)) ?_
      refine And.intro rfl ?_
      refine AW.block ?_
      refine AW.seq ?_
      refine AW.ops ?_
      refine AO.segF tab_ok 3 (by decide) [(1, .sl (.int .i64) w), (3, .bp 1900 0), (5, .bp 1901 0), (6, .bp 1902 0), (7, .bp 1903 0), (8, .bp 1904 0), (9, .int .i64 y1.1), (10, .sl (.int .i64) y1.2), (19, .agg (cellsX T59 t)), (20, .sl (.int .i64) v0), (21, .int .i64 y1.1)] [(1900, .box 59 (cellsX T59 t)), (1901, .box 25 [.sl (.int .i64) v0]), (1902, .box 25 [.cv (.slice none 0 0)]), (1903, .box 25 [.cv (.slice none 0 0)]), (1904, .box 25 [.cv (.slice none 0 0)])] (by (simp only [go_sem]) <;> (repeat' with_reducible apply And.intro) <;> first | assumption | rfl | omega | (unfold maxLen; omega)) ?_
      obtain ⟨v0_3, hv6, h⟩ := Option.bind_eq_some_iff.1 h
      refine AO.call tab_ok (by decide) rfl rfl rfl (fun _ h => h) [] [] (hc_weave_ties_without t v0 y1.1 hv6) rfl (by (simp only [go_sem]) <;> (repeat' with_reducible apply And.intro) <;> first | assumption | rfl | omega | (unfold maxLen; omega)) (by (simp only [go_sem]) <;> (repeat' with_reducible apply And.intro) <;> first | assumption | rfl | omega | (unfold maxLen; omega)) [(1, .sl (.int .i64) w), (3, .bp 1900 0), (5, .bp 1901 0), (6, .bp 1902 0), (7, .bp 1903 0), (8, .bp 1904 0), (9, .int .i64 y1.1), (10, .sl (.int .i64) y1.2), (22, .tup [.own 32000, .bool v0_3.2])] [(1900, .box 59 (cellsX T59 t)), (1901, .box 25 [.sl (.int .i64) v0]), (1902, .box 25 [.cv (.slice none 0 0)]), (1903, .box 25 [.cv (.slice none 0 0)]), (1904, .box 25 [.cv (.slice none 0 0)]), (32000, .arr 3 (.int .i64) v0_3.1)] (by (simp only [go_sem]) <;> (repeat' with_reducible apply And.intro) <;> first | assumption | rfl | omega | (unfold maxLen; omega)) ?_
      refine AO.allF tab_ok (by decide) [(1, .sl (.int .i64) w), (3, .bp 1900 0), (5, .bp 1901 0), (6, .bp 1902 0), (7, .bp 1903 0), (8, .bp 1904 0), (9, .int .i64 y1.1), (10, .sl (.int .i64) y1.2), (11, .own 32000), (12, .bool v0_3.2)] [(1900, .box 59 (cellsX T59 t)), (1901, .box 25 [.sl (.int .i64) v0]), (1902, .box 25 [.cv (.slice none 0 0)]), (1903, .box 25 [.cv (.slice none 0 0)]), (1904, .box 25 [.cv (.slice none 0 0)]), (32000, .arr 3 (.int .i64) v0_3.1)] (by (simp only [go_sem]) <;> (repeat' with_reducible apply And.intro) <;> first | assumption | rfl | omega | (unfold maxLen; omega)) ?_
      refine athen_n ?_
      refine AW.seq ?_
      refine AW.ops ?_
      refine AO.allF tab_ok (by decide) [(1, .sl (.int .i64) w), (3, .bp 1900 0), (5, .bp 1901 0), (6, .bp 1902 0), (7, .bp 1903 0), (8, .bp 1904 0), (9, .int .i64 y1.1), (10, .sl (.int .i64) y1.2), (11, .own 32000), (25, .bool v0_3.2)] [(1900, .box 59 (cellsX T59 t)), (1901, .box 25 [.sl (.int .i64) v0]), (1902, .box 25 [.cv (.slice none 0 0)]), (1903, .box 25 [.cv (.slice none 0 0)]), (1904, .box 25 [.cv (.slice none 0 0)]), (32000, .arr 3 (.int .i64) v0_3.1)] (by (simp only [go_sem]) <;> (repeat' with_reducible apply And.intro) <;> first | assumption | rfl | omega | (unfold maxLen; omega)) ?_
      refine athen_n ?_
      refine AW.cond (b := v0_3.2) rfl (fun hb7 => ?_) (fun hb7 => ?_)
      · rw [if_pos hb7] at h
        refine AW.seq ?_
        refine AW.ops ?_
        refine AO.segF tab_ok 3 (by decide) [(1, .sl (.int .i64) w), (3, .bp 1900 0), (5, .bp 1901 0), (6, .bp 1902 0), (7, .bp 1903 0), (8, .bp 1904 0), (9, .int .i64 y1.1), (27, .agg (cellsX T59 t)), (28, .sl (.int .i64) y1.2), (29, .own 32000)] [(1900, .box 59 (cellsX T59 t)), (1901, .box 25 [.sl (.int .i64) v0]), (1902, .box 25 [.cv (.slice none 0 0)]), (1903, .box 25 [.cv (.slice none 0 0)]), (1904, .box 25 [.cv (.slice none 0 0)]), (32000, .arr 3 (.int .i64) v0_3.1)] (by (simp only [go_sem, hb7]) <;> (repeat' with_reducible apply And.intro) <;> first | assumption | rfl | omega | (unfold maxLen; omega)) ?_
        obtain ⟨v0_4, hv8, h⟩ := Option.bind_eq_some_iff.1 h
        refine AO.call tab_ok (by decide) rfl rfl rfl (fun _ h => h) [32000] [] (hc_slf t y1.2 v0_3.1 hv8) rfl (by (simp only [go_sem, hb7]) <;> (repeat' with_reducible apply And.intro) <;> first | assumption | rfl | omega | (unfold maxLen; omega)) (by (simp only [go_sem, hb7]) <;> (repeat' with_reducible apply And.intro) <;> first | assumption | rfl | omega | (unfold maxLen; omega)) [(1, .sl (.int .i64) w), (3, .bp 1900 0), (5, .bp 1901 0), (6, .bp 1902 0), (7, .bp 1903 0), (8, .bp 1904 0), (9, .int .i64 y1.1), (30, .tup [.own 40000, .sl (.int .i64) v0_4.2.1, .sl (.int .i64) v0_4.2.2])] [(1900, .box 59 (cellsX T59 t)), (1901, .box 25 [.sl (.int .i64) v0]), (1902, .box 25 [.cv (.slice none 0 0)]), (1903, .box 25 [.cv (.slice none 0 0)]), (1904, .box 25 [.cv (.slice none 0 0)]), (40000, .arr 3 (.int .i64) v0_4.1)] (by (simp only [go_sem, hb7]) <;> (repeat' with_reducible apply And.intro) <;> first | assumption | rfl | omega | (unfold maxLen; omega)) ?_
        refine AO.allF tab_ok (by decide) [(1, .sl (.int .i64) w), (3, .bp 1900 0), (5, .bp 1901 0), (6, .bp 1902 0), (7, .bp 1903 0), (8, .bp 1904 0), (9, .int .i64 y1.1)] [(1900, .box 59 (cellsX T59 t)), (1901, .box 25 [.sl (.int .i64) v0]), (1902, .box 25 [.own 40000]), (1903, .box 25 [.sl (.int .i64) v0_4.2.1]), (1904, .box 25 [.sl (.int .i64) v0_4.2.2]), (40000, .arr 3 (.int .i64) v0_4.1)] (by (simp only [go_sem, hb7]) <;> (repeat' with_reducible apply And.intro) <;> first | assumption | rfl | omega | (unfold maxLen; omega)) ?_
        refine athen_n ?_
        refine AW.seq ?_
        refine AW.draw tab_ok mixed_ok [(1, [35]), (3, [35, 37]), (6, [1902]), (7, [1903]), (8, [1904])] [(2, [1902, 40000]), (4, [1903]), (5, [1904]), (100006, []), (100007, []), (100008, [])] (by decide) (by kernel_rfl) ?_
        obtain ⟨c10, h⟩ := ck_some.1 h
        refine adops_cut 6 (fun K' hK9 => ?_)
        try dsimp only [List.drop_succ_cons, List.drop_zero, List.take_succ_cons, List.take_zero]
        simp only [go_sem, hb7]
        repeat (with_reducible refine And.intro (by first | assumption | rfl | omega | trivial | (unfold maxLen; omega)) ?_)
        refine hK9 _ ?_
        refine adops_cut 3 (fun K' hK11 => ?_)
        try dsimp only [List.drop_succ_cons, List.drop_zero, List.take_succ_cons, List.take_zero]
        simp only [go_sem, hb7]
        repeat (with_reducible refine And.intro (by first | assumption | rfl | omega | trivial | (unfold maxLen; omega)) ?_)
        refine hK11 _ ?_
        refine adops_nil ?_
        refine athen_n ?_
        refine AW.weaken (s' := ⟨fr [(1, .sl (.int .i64) w), (3, .bp 1900 0), (5, .bp 1901 0), (6, .bp 1902 0), (7, .bp 1903 0), (8, .bp 1904 0)], hpGet [(37, .arr 3 (.int .i64) (y1.1 :: v0_4.1)), (1900, .box 59 (cellsX T59 t)), (1901, .box 25 [.sl (.int .i64) v0]), (1902, .box 25 [.own 37]), (1903, .box 25 [.sl (.int .i64) v0_4.2.1]), (1904, .box 25 [.sl (.int .i64) v0_4.2.2])], gt⟩) (Wk.to (by (simp only [go_sem, hb7]) <;> (repeat' with_reducible apply And.intro) <;> first | assumption | rfl | omega | (unfold maxLen; omega))) ?_
        refine AW.ret ?_
        refine ablock_r ?_
        obtain rfl := Option.some.inj h
        exact rpost_ret rfl rfl [] [] [] rfl (by (simp only [go_sem, hb7]) <;> (repeat' with_reducible apply And.intro) <;> first | assumption | rfl | omega | (unfold maxLen; omega))
      · rw [if_neg (Bool.eq_false_iff.1 hb7)] at h
        refine AW.skip ?_
        refine ablock_n ?_
        obtain rfl := Option.some.inj h
        exact rpost_next rfl [] [] [] rfl (by (simp only [go_sem, hb7]) <;> (repeat' with_reducible apply And.intro) <;> first | assumption | rfl | omega | (unfold maxLen; omega))
    · cases x3 with
      | inl st1_2 =>
        try simp only at h
        refine ablock_n ?_
        refine athen_n ?_
        exact AW.weaken (Wk.le [] [] [] rfl (by (simp only [go_sem]) <;> (repeat' with_reducible apply And.intro) <;> first | assumption | rfl | omega | (unfold maxLen; omega)) (by (simp only [go_sem]) <;> (repeat' with_reducible apply And.intro) <;> first | assumption | rfl | omega | (unfold maxLen; omega))) (hk_weave_ties_split_k1 () h)
      | inr r1 =>
        try simp only at h
        refine ablock_r ?_
        refine athen_r ?_
        obtain rfl := Option.some.inj h
        exact ⟨rfl, [], [], [(2000, 37)], rfl, (by (simp only [go_sem]) <;> (repeat' with_reducible apply And.intro) <;> first | assumption | rfl | omega | (unfold maxLen; omega))⟩

theorem hc_weave_ties_split : ∀ (n : Nat) (t : (El T59)) (w : List Int) (v0 : List Int) {r : (List Int) × (List Int) × (List Int)}, weave_ties_split n t w v0 = some r → HC Try.prog 86 [] [.agg (cellsX T59 t), .sl (.int .i64) w, .sl (.int .i64) v0] [(2000, .arr 3 (.int .i64) r.1)] (.tup [.own 2000, .sl (.int .i64) r.2.1, .sl (.int .i64) r.2.2]) := by
  intro n
  induction n with
  | zero => intro t w v0 r h; cases h
  | succ n ih => intro t w v0 r h; exact hc_weave_ties_splitF (weave_ties_split n) ih t w v0 h

set_option maxRecDepth 100000 in
set_option maxHeartbeats 2000000 in
theorem hc_weave_Common (l : Int × (List (Int × Int))) (w : List Int) (v0 : List Int) {r : (List Int) × Int} (h : weave_Common l w v0 = some r) : HC Try.prog 50 [] [.agg [.int .i64 l.1, .sl (.pair (.int .i64) (.int .i64)) l.2], .sl (.int .i64) w, .sl (.int .i64) v0] [] (.tup [.sl (.int .i64) r.1, .int .i64 r.2]) := by
  unfold weave_Common at h
  refine HC.of_body tab_ok (res := [.tmp 6, .tmp 7]) Try.func50 rfl (by kernel_rfl) rfl (nt := 35) rfl (by decide) (by simp) ?_
  refine AW.seq ?_
  refine AW.ops ?_
  refine AO.allF tab_ok (by decide) [(1, .sl (.int .i64) w), (2, .sl (.int .i64) v0), (3, .bp 3 0)] [(3, .box 24 [.int .i64 l.1, .sl (.pair (.int .i64) (.int .i64)) l.2])] (by (simp only [go_sem]) <;> (repeat' with_reducible apply And.intro) <;> first | assumption | rfl | omega | (unfold maxLen; omega)) ?_
  refine athen_n ?_
  refine AW.seq ?_
  refine AW.ops ?_
  refine AO.segF tab_ok 4 (by decide) [(1, .sl (.int .i64) w), (2, .sl (.int .i64) v0), (14, .agg [.int .i64 l.1, .sl (.pair (.int .i64) (.int .i64)) l.2]), (17, .own 17)] [(17, .arr 25 (.sl (.int .i64)) [w, v0])] (by (simp only [go_sem]) <;> (repeat' with_reducible apply And.intro) <;> first | assumption | rfl | omega | (unfold maxLen; omega)) ?_
  obtain ⟨v0_2, hv1, h⟩ := Option.bind_eq_some_iff.1 h
  refine AO.call tab_ok (by decide) rfl rfl rfl (fun _ h => h) [17] [] (hc_weave_checked l [w, v0] hv1) rfl (by (simp only [go_sem]) <;> (repeat' with_reducible apply And.intro) <;> first | assumption | rfl | omega | (unfold maxLen; omega)) (by (simp only [go_sem]) <;> (repeat' with_reducible apply And.intro) <;> first | assumption | rfl | omega | (unfold maxLen; omega)) [(1, .sl (.int .i64) w), (2, .sl (.int .i64) v0), (18, .tup [.agg (cellsX T59 v0_2.1), .int .i64 v0_2.2])] [] (by (simp only [go_sem]) <;> (repeat' with_reducible apply And.intro) <;> first | assumption | rfl | omega | (unfold maxLen; omega)) ?_
  refine AO.allF tab_ok (by decide) [(1, .sl (.int .i64) w), (2, .sl (.int .i64) v0), (8, .bp 8 0), (9, .int .i64 v0_2.2)] [(8, .box 59 (cellsX T59 v0_2.1))] (by (simp only [go_sem]) <;> (repeat' with_reducible apply And.intro) <;> first | assumption | rfl | omega | (unfold maxLen; omega)) ?_
  refine athen_n ?_
  refine AW.seq ?_
  refine AW.seq ?_
  refine AW.ops ?_
  refine AO.allF tab_ok (by decide) [(1, .sl (.int .i64) w), (2, .sl (.int .i64) v0), (8, .bp 8 0), (9, .int .i64 v0_2.2), (22, .bool (!(decide (v0_2.2 = 0))))] [(8, .box 59 (cellsX T59 v0_2.1))] (by (simp only [go_sem]) <;> (repeat' with_reducible apply And.intro) <;> first | assumption | rfl | omega | (unfold maxLen; omega)) ?_
  refine athen_n ?_
  refine AW.cond (b := (!(decide (v0_2.2 = 0)))) rfl (fun hb2 => ?_) (fun hb2 => ?_)
  · rw [if_pos hb2] at h
    refine AW.seq ?_
    refine AW.ops ?_
    refine AO.allF tab_ok (by decide) [(6, .cv (.slice none 0 0)), (7, .int .i64 v0_2.2)] [] (by (simp only [go_sem, hb2]) <;> (repeat' with_reducible apply And.intro) <;> first | assumption | rfl | omega | (unfold maxLen; omega)) ?_
    refine athen_n ?_
    refine AW.ret ?_
    refine athen_r ?_
    obtain rfl := Option.some.inj h
    exact ⟨rfl, [], [], [], rfl, (by (simp only [go_sem, hb2]) <;> (repeat' with_reducible apply And.intro) <;> first | assumption | rfl | omega | (unfold maxLen; omega))⟩
  · rw [if_neg (Bool.eq_false_iff.1 hb2)] at h
    refine AW.skip ?_
    refine athen_n ?_
    refine AW.seq ?_
    refine AW.ops ?_
    refine AO.segF tab_ok 3 (by decide) [(8, .bp 8 0), (25, .agg (cellsX T59 v0_2.1)), (26, .sl (.int .i64) w), (27, .sl (.int .i64) v0)] [(8, .box 59 (cellsX T59 v0_2.1))] (by (simp only [go_sem, hb2]) <;> (repeat' with_reducible apply And.intro) <;> first | assumption | rfl | omega | (unfold maxLen; omega)) ?_
    obtain ⟨v0_3, hv3, h⟩ := Option.bind_eq_some_iff.1 h
    refine AO.call tab_ok (by decide) rfl rfl rfl (fun _ h => h) [] [] (hc_weave_ties_split fuel v0_2.1 w v0 hv3) rfl (by (simp only [go_sem, hb2]) <;> (repeat' with_reducible apply And.intro) <;> first | assumption | rfl | omega | (unfold maxLen; omega)) (by (simp only [go_sem, hb2]) <;> (repeat' with_reducible apply And.intro) <;> first | assumption | rfl | omega | (unfold maxLen; omega)) [(8, .bp 8 0), (28, .tup [.own 38000, .sl (.int .i64) v0_3.2.1, .sl (.int .i64) v0_3.2.2])] [(8, .box 59 (cellsX T59 v0_2.1)), (38000, .arr 3 (.int .i64) v0_3.1)] (by (simp only [go_sem, hb2]) <;> (repeat' with_reducible apply And.intro) <;> first | assumption | rfl | omega | (unfold maxLen; omega)) ?_
    refine AO.allF tab_ok (by decide) [(8, .bp 8 0), (10, .own 38000)] [(8, .box 59 (cellsX T59 v0_2.1)), (38000, .arr 3 (.int .i64) v0_3.1)] (by (simp only [go_sem, hb2]) <;> (repeat' with_reducible apply And.intro) <;> first | assumption | rfl | omega | (unfold maxLen; omega)) ?_
    refine athen_n ?_
    refine AW.seq ?_
    refine AW.ops ?_
    refine AO.segF tab_ok 2 (by decide) [(32, .agg (cellsX T59 v0_2.1)), (33, .own 38000)] [(38000, .arr 3 (.int .i64) v0_3.1)] (by (simp only [go_sem, hb2]) <;> (repeat' with_reducible apply And.intro) <;> first | assumption | rfl | omega | (unfold maxLen; omega)) ?_
    obtain ⟨v0_4, hv4, h⟩ := Option.bind_eq_some_iff.1 h
    refine AO.call tab_ok (by decide) rfl rfl rfl (fun _ h => h) [38000] [] (hc_weave_ties_first v0_2.1 v0_3.1 hv4) rfl (by (simp only [go_sem, hb2]) <;> (repeat' with_reducible apply And.intro) <;> first | assumption | rfl | omega | (unfold maxLen; omega)) (by (simp only [go_sem, hb2]) <;> (repeat' with_reducible apply And.intro) <;> first | assumption | rfl | omega | (unfold maxLen; omega)) [(34, .sl (.int .i64) v0_4)] [] (by (simp only [go_sem, hb2]) <;> (repeat' with_reducible apply And.intro) <;> first | assumption | rfl | omega | (unfold maxLen; omega)) ?_
    refine AO.allF tab_ok (by decide) [(6, .sl (.int .i64) v0_4), (7, .int .i64 0)] [] (by (simp only [go_sem, hb2]) <;> (repeat' with_reducible apply And.intro) <;> first | assumption | rfl | omega | (unfold maxLen; omega)) ?_
    refine athen_n ?_
    refine AW.ret ?_
    obtain rfl := Option.some.inj h
    exact ⟨rfl, [], [], [], rfl, (by (simp only [go_sem, hb2]) <;> (repeat' with_reducible apply And.intro) <;> first | assumption | rfl | omega | (unfold maxLen; omega))⟩

set_option maxRecDepth 100000 in
set_option maxHeartbeats 2000000 in
theorem hc_linealref03_common (l : Int × (List (Int × Int))) (w : List Int) (v0 : List Int) {r : (List Int) × (List Int) × (List Int)} (h : linealref03_common l w v0 = some r) : HC Try.prog 87 [] [.agg [.int .i64 l.1, .sl (.pair (.int .i64) (.int .i64)) l.2], .sl (.int .i64) w, .sl (.int .i64) v0] [(2000, .arr 3 (.int .i64) r.1)] (.tup [.own 2000, .sl (.int .i64) r.2.1, .sl (.int .i64) r.2.2]) := by
  unfold linealref03_common at h
  refine HC.of_body tab_ok (res := [.tmp 6, .tmp 7, .tmp 8]) Try.func87 rfl (by kernel_rfl) rfl (nt := 47) rfl (by decide) (by simp) ?_
  refine AW.seq ?_
  refine AW.ops ?_
  refine AO.allF tab_ok (by decide) [(1, .sl (.int .i64) w), (2, .sl (.int .i64) v0), (3, .bp 3 0), (6, .cv (.slice none 0 0))] [(3, .box 24 [.int .i64 l.1, .sl (.pair (.int .i64) (.int .i64)) l.2])] (by (simp only [go_sem]) <;> (repeat' with_reducible apply And.intro) <;> first | assumption | rfl | omega | (unfold maxLen; omega)) ?_
  refine athen_n ?_
  refine AW.seq ?_
  refine AW.ops ?_
  refine AO.allF tab_ok (by decide) [(3, .bp 3 0), (6, .cv (.slice none 0 0)), (7, .sl (.int .i64) w), (8, .sl (.int .i64) v0)] [(3, .box 24 [.int .i64 l.1, .sl (.pair (.int .i64) (.int .i64)) l.2])] (by (simp only [go_sem]) <;> (repeat' with_reducible apply And.intro) <;> first | assumption | rfl | omega | (unfold maxLen; omega)) ?_
  refine athen_n ?_
  refine AW.have1 (fun b1 : (List Int) × (List Int) × (List Int) => linealref03_common_k1 b1 = some r) (fun b1 => ⟨fr [(6, .own 37), (7, .sl (.int .i64) b1.2.1), (8, .sl (.int .i64) b1.2.2)], hpGet [(37, .arr 3 (.int .i64) b1.1)], gt⟩) (fun b1 h => ?_) (fun hk_linealref03_common_k1 => ?_)
  · unfold linealref03_common_k1 at h
    refine AW.seq ?_
    refine AW.ops ?_
    refine AO.allF tab_ok (by decide) [(6, .own 37), (7, .sl (.int .i64) b1.2.1), (8, .sl (.int .i64) b1.2.2)] [(37, .arr 3 (.int .i64) b1.1)] (by (simp only [go_sem]) <;> (repeat' with_reducible apply And.intro) <;> first | assumption | rfl | omega | (unfold maxLen; omega)) ?_
    refine athen_n ?_
    refine AW.ret ?_
    obtain rfl := Option.some.inj h
    exact ⟨rfl, [], [], [(2000, 37)], rfl, (by (simp only [go_sem]) <;> (repeat' with_reducible apply And.intro) <;> first | assumption | rfl | omega | (unfold maxLen; omega))⟩
  · refine AW.seq ?_
    refine AW.seq ?_
    refine AW.ops ?_
    refine AO.allF tab_ok (by decide) [(3, .bp 3 0), (6, .cv (.slice none 0 0)), (7, .sl (.int .i64) w), (8, .sl (.int .i64) v0), (9, .int .i64 0)] [(3, .box 24 [.int .i64 l.1, .sl (.pair (.int .i64) (.int .i64)) l.2])] (by (simp only [go_sem]) <;> (repeat' with_reducible apply And.intro) <;> first | assumption | rfl | omega | (unfold maxLen; omega)) ?_
    refine athen_n ?_
    refine AW.block ?_
    obtain ⟨rv5, hw1, ho2⟩ := Option.bind_eq_some_iff.1 h
    refine AW.loopO (linealref03_common_b1 l) (fun st1 => ⟨fr [(3, .bp 3 0), (6, .own 37), (7, .sl (.int .i64) st1.2.1), (8, .sl (.int .i64) st1.2.2.1), (9, .int .i64 st1.2.2.2)], hpGet [(3, .box 24 [.int .i64 l.1, .sl (.pair (.int .i64) (.int .i64)) l.2]), (37, .arr 3 (.int .i64) st1.1)], gt⟩) ([], w, v0, 0) hw1 (Wk.le [] [37] [] rfl (by (simp only [go_sem]) <;> (repeat' with_reducible apply And.intro) <;> first | assumption | rfl | omega | (unfold maxLen; omega)) (by (simp only [go_sem]) <;> (repeat' with_reducible apply And.intro) <;> first | assumption | rfl | omega | (unfold maxLen; omega))) ?_
    intro st1 x4 h hd3
    unfold linealref03_common_b1 at h
    refine AW.seq ?_
    refine AW.seq ?_
    refine AW.ops ?_
    refine AO.allF tab_ok (by decide) [(3, .bp 3 0), (6, .own 37), (7, .sl (.int .i64) st1.2.1), (8, .sl (.int .i64) st1.2.2.1), (9, .int .i64 st1.2.2.2), (17, .bool (decide (st1.2.2.2 < l.1)))] [(3, .box 24 [.int .i64 l.1, .sl (.pair (.int .i64) (.int .i64)) l.2]), (37, .arr 3 (.int .i64) st1.1)] (by (simp only [go_sem]) <;> (repeat' with_reducible apply And.intro) <;> first | assumption | rfl | omega | (unfold maxLen; omega)) ?_
    refine athen_n ?_
    refine AW.cond (b := (decide (st1.2.2.2 < l.1))) rfl (fun hb6 => ?_) (fun hb6 => ?_)
    · rw [if_pos hb6] at h
      refine AW.skip ?_
      refine athen_n ?_
      refine AW.seq ?_
      refine AW.block ?_
      refine AW.seq ?_
      refine AW.draw tab_ok mixed_ok [] [] (by decide) (by kernel_rfl) ?_
      refine adops_cut 3 (fun K' hK7 => ?_)
      try dsimp only [List.drop_succ_cons, List.drop_zero, List.take_succ_cons, List.take_zero]
      simp only [go_sem, hb6]
      repeat (with_reducible refine And.intro (by first | assumption | rfl | omega | trivial | (unfold maxLen; omega)) ?_)
      refine hK7 _ ?_
      obtain ⟨v0_2, hv8, h⟩ := Option.bind_eq_some_iff.1 h
      refine adops.call (by first | trivial | rfl) rfl rfl rfl (fun _ h => h) [] [] (hc_linealref03_free l st1.2.1 st1.2.2.2 hv8) rfl (by (simp only [go_sem, hb6]) <;> (repeat' with_reducible apply And.intro) <;> first | assumption | rfl | omega | (unfold maxLen; omega)) (by (simp only [go_sem, hb6]) <;> (repeat' with_reducible apply And.intro) <;> first | assumption | rfl | omega | (unfold maxLen; omega)) rfl ?_
      refine adops_cut 3 (fun K' hK9 => ?_)
      try dsimp only [List.drop_succ_cons, List.drop_zero, List.take_succ_cons, List.take_zero]
      simp only [go_sem, hb6]
      repeat (with_reducible refine And.intro (by first | assumption | rfl | omega | trivial | (unfold maxLen; omega)) ?_)
      refine hK9 _ ?_
      obtain ⟨v0_3, hv10, h⟩ := Option.bind_eq_some_iff.1 h
      refine adops.call (by first | trivial | rfl) rfl rfl rfl (fun _ h => h) [] [] (hc_linealref03_free l st1.2.2.1 st1.2.2.2 hv10) rfl (by (simp only [go_sem, hb6]) <;> (repeat' with_reducible apply And.intro) <;> first | assumption | rfl | omega | (unfold maxLen; omega)) (by (simp only [go_sem, hb6]) <;> (repeat' with_reducible apply And.intro) <;> first | assumption | rfl | omega | (unfold maxLen; omega)) rfl ?_
      refine adops_cut 2 (fun K' hK11 => ?_)
      try dsimp only [List.drop_succ_cons, List.drop_zero, List.take_succ_cons, List.take_zero]
      simp only [go_sem, hb6]
      repeat (with_reducible refine And.intro (by first | assumption | rfl | omega | trivial | (unfold maxLen; omega)) ?_)
      refine hK11 _ ?_
      refine adops_nil ?_
      refine athen_n ?_
      refine AW.weaken (s' := ⟨fr [(3, .bp 3 0), (6, .own 37), (7, .sl (.int .i64) st1.2.1), (8, .sl (.int .i64) st1.2.2.1), (9, .int .i64 st1.2.2.2), (10, .int .i64 v0_2), (11, .int .i64 v0_3)], hpGet [(3, .box 24 [.int .i64 l.1, .sl (.pair (.int .i64) (.int .i64)) l.2]), (37, .arr 3 (.int .i64) st1.1)], gt⟩) (Wk.to (by (simp only [go_sem, hb6]) <;> (repeat' with_reducible apply And.intro) <;> first | assumption | rfl | omega | (unfold maxLen; omega))) ?_
      refine AW.seq ?_
      refine AW.ops ?_
      refine AO.segF tab_ok 3 (by decide) [(3, .bp 3 0), (6, .own 37), (7, .sl (.int .i64) st1.2.1), (8, .sl (.int .i64) st1.2.2.1), (9, .int .i64 st1.2.2.2), (10, .int .i64 v0_2), (11, .int .i64 v0_3), (30, .bool (decide (0 ≤ v0_2)))] [(3, .box 24 [.int .i64 l.1, .sl (.pair (.int .i64) (.int .i64)) l.2]), (37, .arr 3 (.int .i64) st1.1)] (by (simp only [go_sem, hb6]) <;> (repeat' with_reducible apply And.intro) <;> first | assumption | rfl | omega | (unfold maxLen; omega)) ?_
      rcases Bool.eq_false_or_eq_true (decide (0 ≤ v0_2)) with hb12 | hb12
      · rw [if_pos hb12] at h
        refine AO.weaken (s' := ⟨fr [(3, .bp 3 0), (6, .own 37), (7, .sl (.int .i64) st1.2.1), (8, .sl (.int .i64) st1.2.2.1), (9, .int .i64 st1.2.2.2), (10, .int .i64 v0_2), (11, .int .i64 v0_3), (30, .bool true)], hpGet [(3, .box 24 [.int .i64 l.1, .sl (.pair (.int .i64) (.int .i64)) l.2]), (37, .arr 3 (.int .i64) st1.1)], gt⟩) (Wk.to (by (simp only [go_sem, hb6, hb12]) <;> (repeat' with_reducible apply And.intro) <;> first | assumption | rfl | omega | (unfold maxLen; omega))) ?_
        refine AO.allF tab_ok (by decide) [(3, .bp 3 0), (6, .own 37), (7, .sl (.int .i64) st1.2.1), (8, .sl (.int .i64) st1.2.2.1), (9, .int .i64 st1.2.2.2), (10, .int .i64 v0_2), (11, .int .i64 v0_3), (33, .bool (decide (0 ≤ v0_3)))] [(3, .box 24 [.int .i64 l.1, .sl (.pair (.int .i64) (.int .i64)) l.2]), (37, .arr 3 (.int .i64) st1.1)] (by (simp only [go_sem, hb6, hb12]) <;> (repeat' with_reducible apply And.intro) <;> first | assumption | rfl | omega | (unfold maxLen; omega)) ?_
        refine athen_n ?_
        refine AW.cond (b := (decide (0 ≤ v0_3))) rfl (fun hb13 => ?_) (fun hb13 => ?_)
        · rw [if_pos hb13] at h
          refine AW.seq ?_
          refine AW.ops ?_
          obtain ⟨c14, h⟩ := ck_some.1 h
          refine AO.allF tab_ok (by decide) [(3, .bp 3 0), (6, .own 37), (7, .sl (.int .i64) st1.2.1), (8, .sl (.int .i64) st1.2.2.1), (10, .int .i64 v0_2), (11, .int .i64 v0_3)] [(3, .box 24 [.int .i64 l.1, .sl (.pair (.int .i64) (.int .i64)) l.2]), (37, .arr 3 (.int .i64) (st1.1 ++ [st1.2.2.2]))] (by (simp only [go_sem, hb6, hb12, hb13]) <;> (repeat' with_reducible apply And.intro) <;> first | assumption | rfl | omega | (unfold maxLen; omega)) ?_
          refine athen_n ?_
          refine AW.seq ?_
          refine AW.ops ?_
          refine AO.segF tab_ok 2 (by decide) [(3, .bp 3 0), (6, .own 37), (8, .sl (.int .i64) st1.2.2.1), (11, .int .i64 v0_3), (38, .sl (.int .i64) st1.2.1), (39, .int .i64 v0_2)] [(3, .box 24 [.int .i64 l.1, .sl (.pair (.int .i64) (.int .i64)) l.2]), (37, .arr 3 (.int .i64) (st1.1 ++ [st1.2.2.2]))] (by (simp only [go_sem, hb6, hb12, hb13]) <;> (repeat' with_reducible apply And.intro) <;> first | assumption | rfl | omega | (unfold maxLen; omega)) ?_
          obtain ⟨v0_4, hv15, h⟩ := Option.bind_eq_some_iff.1 h
          refine AO.call tab_ok (by decide) rfl rfl rfl (fun _ h => h) [] [] (hc_linealref03_without st1.2.1 v0_2 hv15) rfl (by (simp only [go_sem, hb6, hb12, hb13]) <;> (repeat' with_reducible apply And.intro) <;> first | assumption | rfl | omega | (unfold maxLen; omega)) (by (simp only [go_sem, hb6, hb12, hb13]) <;> (repeat' with_reducible apply And.intro) <;> first | assumption | rfl | omega | (unfold maxLen; omega)) [(3, .bp 3 0), (6, .own 37), (8, .sl (.int .i64) st1.2.2.1), (11, .int .i64 v0_3), (40, .own 50000)] [(3, .box 24 [.int .i64 l.1, .sl (.pair (.int .i64) (.int .i64)) l.2]), (37, .arr 3 (.int .i64) (st1.1 ++ [st1.2.2.2])), (50000, .arr 3 (.int .i64) ((st1.2.1.take v0_2.toNat) ++ (st1.2.1.drop (v0_2 + 1).toNat)))] (by (simp only [go_sem, hb6, hb12, hb13]) <;> (repeat' with_reducible apply And.intro) <;> first | assumption | rfl | omega | (unfold maxLen; omega)) ?_
          refine AO.segF tab_ok 2 (by decide) [(3, .bp 3 0), (6, .own 37), (40, .own 50000), (41, .sl (.int .i64) st1.2.2.1), (42, .int .i64 v0_3)] [(3, .box 24 [.int .i64 l.1, .sl (.pair (.int .i64) (.int .i64)) l.2]), (37, .arr 3 (.int .i64) (st1.1 ++ [st1.2.2.2])), (50000, .arr 3 (.int .i64) ((st1.2.1.take v0_2.toNat) ++ (st1.2.1.drop (v0_2 + 1).toNat)))] (by (simp only [go_sem, hb6, hb12, hb13]) <;> (repeat' with_reducible apply And.intro) <;> first | assumption | rfl | omega | (unfold maxLen; omega)) ?_
          obtain ⟨v0_5, hv16, h⟩ := Option.bind_eq_some_iff.1 h
          refine AO.call tab_ok (by decide) rfl rfl rfl (fun _ h => h) [] [] (hc_linealref03_without st1.2.2.1 v0_3 hv16) rfl (by (simp only [go_sem, hb6, hb12, hb13]) <;> (repeat' with_reducible apply And.intro) <;> first | assumption | rfl | omega | (unfold maxLen; omega)) (by (simp only [go_sem, hb6, hb12, hb13]) <;> (repeat' with_reducible apply And.intro) <;> first | assumption | rfl | omega | (unfold maxLen; omega)) [(3, .bp 3 0), (6, .own 37), (40, .own 50000), (43, .own 53000)] [(3, .box 24 [.int .i64 l.1, .sl (.pair (.int .i64) (.int .i64)) l.2]), (37, .arr 3 (.int .i64) (st1.1 ++ [st1.2.2.2])), (50000, .arr 3 (.int .i64) ((st1.2.1.take v0_2.toNat) ++ (st1.2.1.drop (v0_2 + 1).toNat))), (53000, .arr 3 (.int .i64) ((st1.2.2.1.take v0_3.toNat) ++ (st1.2.2.1.drop (v0_3 + 1).toNat)))] (by (simp only [go_sem, hb6, hb12, hb13]) <;> (repeat' with_reducible apply And.intro) <;> first | assumption | rfl | omega | (unfold maxLen; omega)) ?_
          refine AO.allF tab_ok (by decide) [(3, .bp 3 0), (6, .own 37), (7, .own 50000), (8, .own 53000)] [(3, .box 24 [.int .i64 l.1, .sl (.pair (.int .i64) (.int .i64)) l.2]), (37, .arr 3 (.int .i64) (st1.1 ++ [st1.2.2.2])), (50000, .arr 3 (.int .i64) ((st1.2.1.take v0_2.toNat) ++ (st1.2.1.drop (v0_2 + 1).toNat))), (53000, .arr 3 (.int .i64) ((st1.2.2.1.take v0_3.toNat) ++ (st1.2.2.1.drop (v0_3 + 1).toNat)))] (by (simp only [go_sem, hb6, hb12, hb13]) <;> (repeat' with_reducible apply And.intro) <;> first | assumption | rfl | omega | (unfold maxLen; omega)) ?_
          refine athen_n ?_
          refine AW.ops ?_
          refine AO.allF tab_ok (by decide) [(3, .bp 3 0), (6, .own 37), (7, .own 50000), (8, .own 53000), (9, .int .i64 (-1))] [(3, .box 24 [.int .i64 l.1, .sl (.pair (.int .i64) (.int .i64)) l.2]), (37, .arr 3 (.int .i64) (st1.1 ++ [st1.2.2.2])), (50000, .arr 3 (.int .i64) ((st1.2.1.take v0_2.toNat) ++ (st1.2.1.drop (v0_2 + 1).toNat))), (53000, .arr 3 (.int .i64) ((st1.2.2.1.take v0_3.toNat) ++ (st1.2.2.1.drop (v0_3 + 1).toNat)))] (by (simp only [go_sem, hb6, hb12, hb13]) <;> (repeat' with_reducible apply And.intro) <;> first | assumption | rfl | omega | (unfold maxLen; omega)) ?_
          refine ablock_n ?_
          refine athen_n ?_
          refine AW.ops ?_
          obtain ⟨c17, h⟩ := ck_some.1 h
          refine AO.allF tab_ok (by decide) [(3, .bp 3 0), (6, .own 37), (7, .own 50000), (8, .own 53000), (9, .int .i64 ((-1) + 1))] [(3, .box 24 [.int .i64 l.1, .sl (.pair (.int .i64) (.int .i64)) l.2]), (37, .arr 3 (.int .i64) (st1.1 ++ [st1.2.2.2])), (50000, .arr 3 (.int .i64) ((st1.2.1.take v0_2.toNat) ++ (st1.2.1.drop (v0_2 + 1).toNat))), (53000, .arr 3 (.int .i64) ((st1.2.2.1.take v0_3.toNat) ++ (st1.2.2.1.drop (v0_3 + 1).toNat)))] (by (simp only [go_sem, hb6, hb12, hb13]) <;> (repeat' with_reducible apply And.intro) <;> first | assumption | rfl | omega | (unfold maxLen; omega)) ?_
          obtain rfl := Option.some.inj h
          exact ⟨_, rfl, Wk.le [50000, 53000] [] [] rfl (by (simp only [go_sem, hb6, hb12, hb13]) <;> (repeat' with_reducible apply And.intro) <;> first | assumption | rfl | omega | (unfold maxLen; omega)) (by (simp only [go_sem, hb6, hb12, hb13]) <;> (repeat' with_reducible apply And.intro) <;> first | assumption | rfl | omega | (unfold maxLen; omega))⟩
        · rw [if_neg (Bool.eq_false_iff.1 hb13)] at h
          refine AW.skip ?_
          refine ablock_n ?_
          refine athen_n ?_
          refine AW.ops ?_
          obtain ⟨c18, h⟩ := ck_some.1 h
          refine AO.allF tab_ok (by decide) [(3, .bp 3 0), (6, .own 37), (7, .sl (.int .i64) st1.2.1), (8, .sl (.int .i64) st1.2.2.1), (9, .int .i64 (st1.2.2.2 + 1))] [(3, .box 24 [.int .i64 l.1, .sl (.pair (.int .i64) (.int .i64)) l.2]), (37, .arr 3 (.int .i64) st1.1)] (by (simp only [go_sem, hb6, hb12, hb13]) <;> (repeat' with_reducible apply And.intro) <;> first | assumption | rfl | omega | (unfold maxLen; omega)) ?_
          obtain rfl := Option.some.inj h
          exact ⟨_, rfl, Wk.le [] [] [] rfl (by (simp only [go_sem, hb6, hb12, hb13]) <;> (repeat' with_reducible apply And.intro) <;> first | assumption | rfl | omega | (unfold maxLen; omega)) (by (simp only [go_sem, hb6, hb12, hb13]) <;> (repeat' with_reducible apply And.intro) <;> first | assumption | rfl | omega | (unfold maxLen; omega))⟩
      · rw [if_neg (Bool.eq_false_iff.1 hb12)] at h
        refine AO.weaken (s' := ⟨fr [(3, .bp 3 0), (6, .own 37), (7, .sl (.int .i64) st1.2.1), (8, .sl (.int .i64) st1.2.2.1), (9, .int .i64 st1.2.2.2), (10, .int .i64 v0_2), (11, .int .i64 v0_3), (30, .bool false)], hpGet [(3, .box 24 [.int .i64 l.1, .sl (.pair (.int .i64) (.int .i64)) l.2]), (37, .arr 3 (.int .i64) st1.1)], gt⟩) (Wk.to (by (simp only [go_sem, hb6, hb12]) <;> (repeat' with_reducible apply And.intro) <;> first | assumption | rfl | omega | (unfold maxLen; omega))) ?_
        refine AO.allF tab_ok (by decide) [(3, .bp 3 0), (6, .own 37), (7, .sl (.int .i64) st1.2.1), (8, .sl (.int .i64) st1.2.2.1), (9, .int .i64 st1.2.2.2), (10, .int .i64 v0_2), (11, .int .i64 v0_3), (33, .bool false)] [(3, .box 24 [.int .i64 l.1, .sl (.pair (.int .i64) (.int .i64)) l.2]), (37, .arr 3 (.int .i64) st1.1)] (by (simp only [go_sem, hb6, hb12]) <;> (repeat' with_reducible apply And.intro) <;> first | assumption | rfl | omega | (unfold maxLen; omega)) ?_
        refine athen_n ?_
        refine AW.cond (b := false) rfl (fun hb19 => by cases hb19) (fun _ => ?_)
        refine AW.skip ?_
        refine ablock_n ?_
        refine athen_n ?_
        refine AW.ops ?_
        obtain ⟨c20, h⟩ := ck_some.1 h
        refine AO.allF tab_ok (by decide) [(3, .bp 3 0), (6, .own 37), (7, .sl (.int .i64) st1.2.1), (8, .sl (.int .i64) st1.2.2.1), (9, .int .i64 (st1.2.2.2 + 1))] [(3, .box 24 [.int .i64 l.1, .sl (.pair (.int .i64) (.int .i64)) l.2]), (37, .arr 3 (.int .i64) st1.1)] (by (simp only [go_sem, hb6, hb12]) <;> (repeat' with_reducible apply And.intro) <;> first | assumption | rfl | omega | (unfold maxLen; omega)) ?_
        obtain rfl := Option.some.inj h
        exact ⟨_, rfl, Wk.le [] [] [] rfl (by (simp only [go_sem, hb6, hb12]) <;> (repeat' with_reducible apply And.intro) <;> first | assumption | rfl | omega | (unfold maxLen; omega)) (by (simp only [go_sem, hb6, hb12]) <;> (repeat' with_reducible apply And.intro) <;> first | assumption | rfl | omega | (unfold maxLen; omega))⟩
    · rw [if_neg (Bool.eq_false_iff.1 hb6)] at h
      refine AW.exit ?_
      refine athen_e ?_
      obtain rfl := Option.some.inj h
      rw [← hd3 _ rfl] at ho2
      have h := ho2
      refine athen_e ?_
      refine ablock_s ?_
      refine athen_n ?_
      exact AW.weaken (Wk.le [] [] [] rfl (by (simp only [go_sem, hb6]) <;> (repeat' with_reducible apply And.intro) <;> first | assumption | rfl | omega | (unfold maxLen; omega)) (by (simp only [go_sem, hb6]) <;> (repeat' with_reducible apply And.intro) <;> first | assumption | rfl | omega | (unfold maxLen; omega))) (hk_linealref03_common_k1 _ h)

set_option maxRecDepth 100000 in
set_option maxHeartbeats 2000000 in
theorem hc_linealref03_Common (l : Int × (List (Int × Int))) (w : List Int) (v0 : List Int) {r : (List Int) × Int} (h : linealref03_Common l w v0 = some r) : HC Try.prog 51 [] [.agg [.int .i64 l.1, .sl (.pair (.int .i64) (.int .i64)) l.2], .sl (.int .i64) w, .sl (.int .i64) v0] [(2000, .arr 3 (.int .i64) r.1)] (.tup [.own 2000, .int .i64 r.2]) := by
  unfold linealref03_Common at h
  refine HC.of_body tab_ok (res := [.tmp 6, .tmp 7]) Try.func51 rfl (by kernel_rfl) rfl (nt := 30) rfl (by decide) (by simp) ?_
  refine AW.seq ?_
  refine AW.ops ?_
  refine AO.allF tab_ok (by decide) [(1, .sl (.int .i64) w), (2, .sl (.int .i64) v0), (3, .bp 3 0)] [(3, .box 24 [.int .i64 l.1, .sl (.pair (.int .i64) (.int .i64)) l.2])] (by (simp only [go_sem]) <;> (repeat' with_reducible apply And.intro) <;> first | assumption | rfl | omega | (unfold maxLen; omega)) ?_
  refine athen_n ?_
  refine AW.seq ?_
  refine AW.seq ?_
  refine AW.ops ?_
  refine AO.segF tab_ok 3 (by decide) [(1, .sl (.int .i64) w), (2, .sl (.int .i64) v0), (3, .bp 3 0), (12, .agg [.int .i64 l.1, .sl (.pair (.int .i64) (.int .i64)) l.2]), (13, .sl (.int .i64) w), (14, .sl (.int .i64) v0)] [(3, .box 24 [.int .i64 l.1, .sl (.pair (.int .i64) (.int .i64)) l.2])] (by (simp only [go_sem]) <;> (repeat' with_reducible apply And.intro) <;> first | assumption | rfl | omega | (unfold maxLen; omega)) ?_
  obtain ⟨v0_2, hv1, h⟩ := Option.bind_eq_some_iff.1 h
  refine AO.call tab_ok (by decide) rfl rfl rfl (fun _ h => h) [] [] (hc_linealref03_asked l w v0 hv1) rfl (by (simp only [go_sem]) <;> (repeat' with_reducible apply And.intro) <;> first | assumption | rfl | omega | (unfold maxLen; omega)) (by (simp only [go_sem]) <;> (repeat' with_reducible apply And.intro) <;> first | assumption | rfl | omega | (unfold maxLen; omega)) [(1, .sl (.int .i64) w), (2, .sl (.int .i64) v0), (3, .bp 3 0), (15, .int .i64 v0_2)] [(3, .box 24 [.int .i64 l.1, .sl (.pair (.int .i64) (.int .i64)) l.2])] (by (simp only [go_sem]) <;> (repeat' with_reducible apply And.intro) <;> first | assumption | rfl | omega | (unfold maxLen; omega)) ?_
  refine AO.allF tab_ok (by decide) [(1, .sl (.int .i64) w), (2, .sl (.int .i64) v0), (3, .bp 3 0), (8, .int .i64 v0_2)] [(3, .box 24 [.int .i64 l.1, .sl (.pair (.int .i64) (.int .i64)) l.2])] (by (simp only [go_sem]) <;> (repeat' with_reducible apply And.intro) <;> first | assumption | rfl | omega | (unfold maxLen; omega)) ?_
  refine athen_n ?_
  refine AW.seq ?_
  refine AW.ops ?_
  refine AO.allF tab_ok (by decide) [(1, .sl (.int .i64) w), (2, .sl (.int .i64) v0), (3, .bp 3 0), (8, .int .i64 v0_2), (17, .bool (!(decide (v0_2 = 0))))] [(3, .box 24 [.int .i64 l.1, .sl (.pair (.int .i64) (.int .i64)) l.2])] (by (simp only [go_sem]) <;> (repeat' with_reducible apply And.intro) <;> first | assumption | rfl | omega | (unfold maxLen; omega)) ?_
  refine athen_n ?_
  refine AW.cond (b := (!(decide (v0_2 = 0)))) rfl (fun hb2 => ?_) (fun hb2 => ?_)
  · rw [if_pos hb2] at h
    refine AW.seq ?_
    refine AW.ops ?_
    refine AO.allF tab_ok (by decide) [(6, .cv (.slice none 0 0)), (7, .int .i64 v0_2)] [] (by (simp only [go_sem, hb2]) <;> (repeat' with_reducible apply And.intro) <;> first | assumption | rfl | omega | (unfold maxLen; omega)) ?_
    refine athen_n ?_
    refine AW.ret ?_
    refine athen_r ?_
    obtain rfl := Option.some.inj h
    exact ⟨rfl, [], [2000], [], rfl, (by (simp only [go_sem, hb2]) <;> (repeat' with_reducible apply And.intro) <;> first | assumption | rfl | omega | (unfold maxLen; omega))⟩
  · rw [if_neg (Bool.eq_false_iff.1 hb2)] at h
    refine AW.skip ?_
    refine athen_n ?_
    refine AW.seq ?_
    refine AW.ops ?_
    refine AO.segF tab_ok 3 (by decide) [(3, .bp 3 0), (20, .agg [.int .i64 l.1, .sl (.pair (.int .i64) (.int .i64)) l.2]), (21, .sl (.int .i64) w), (22, .sl (.int .i64) v0)] [(3, .box 24 [.int .i64 l.1, .sl (.pair (.int .i64) (.int .i64)) l.2])] (by (simp only [go_sem, hb2]) <;> (repeat' with_reducible apply And.intro) <;> first | assumption | rfl | omega | (unfold maxLen; omega)) ?_
    obtain ⟨v0_3, hv3, h⟩ := Option.bind_eq_some_iff.1 h
    refine AO.call tab_ok (by decide) rfl rfl rfl (fun _ h => h) [] [] (hc_linealref03_common l w v0 hv3) rfl (by (simp only [go_sem, hb2]) <;> (repeat' with_reducible apply And.intro) <;> first | assumption | rfl | omega | (unfold maxLen; omega)) (by (simp only [go_sem, hb2]) <;> (repeat' with_reducible apply And.intro) <;> first | assumption | rfl | omega | (unfold maxLen; omega)) [(3, .bp 3 0), (23, .tup [.own 33000, .sl (.int .i64) v0_3.2.1, .sl (.int .i64) v0_3.2.2])] [(3, .box 24 [.int .i64 l.1, .sl (.pair (.int .i64) (.int .i64)) l.2]), (33000, .arr 3 (.int .i64) v0_3.1)] (by (simp only [go_sem, hb2]) <;> (repeat' with_reducible apply And.intro) <;> first | assumption | rfl | omega | (unfold maxLen; omega)) ?_
    refine AO.allF tab_ok (by decide) [(3, .bp 3 0), (9, .own 33000)] [(3, .box 24 [.int .i64 l.1, .sl (.pair (.int .i64) (.int .i64)) l.2]), (33000, .arr 3 (.int .i64) v0_3.1)] (by (simp only [go_sem, hb2]) <;> (repeat' with_reducible apply And.intro) <;> first | assumption | rfl | omega | (unfold maxLen; omega)) ?_
    refine athen_n ?_
    refine AW.seq ?_
    refine AW.ops ?_
    refine AO.segF tab_ok 2 (by decide) [(27, .agg [.int .i64 l.1, .sl (.pair (.int .i64) (.int .i64)) l.2]), (28, .own 33000)] [(33000, .arr 3 (.int .i64) v0_3.1)] (by (simp only [go_sem, hb2]) <;> (repeat' with_reducible apply And.intro) <;> first | assumption | rfl | omega | (unfold maxLen; omega)) ?_
    obtain ⟨v0_4, hv4, h⟩ := Option.bind_eq_some_iff.1 h
    refine AO.call tab_ok (by decide) rfl rfl rfl (fun _ h => h) [33000] [] (hc_linealref03_FirstForm l v0_3.1 hv4) rfl (by (simp only [go_sem, hb2]) <;> (repeat' with_reducible apply And.intro) <;> first | assumption | rfl | omega | (unfold maxLen; omega)) (by (simp only [go_sem, hb2]) <;> (repeat' with_reducible apply And.intro) <;> first | assumption | rfl | omega | (unfold maxLen; omega)) [(29, .own 39000)] [(39000, .arr 3 (.int .i64) v0_4)] (by (simp only [go_sem, hb2]) <;> (repeat' with_reducible apply And.intro) <;> first | assumption | rfl | omega | (unfold maxLen; omega)) ?_
    refine AO.allF tab_ok (by decide) [(6, .own 39000), (7, .int .i64 0)] [(39000, .arr 3 (.int .i64) v0_4)] (by (simp only [go_sem, hb2]) <;> (repeat' with_reducible apply And.intro) <;> first | assumption | rfl | omega | (unfold maxLen; omega)) ?_
    refine athen_n ?_
    refine AW.ret ?_
    obtain rfl := Option.some.inj h
    exact ⟨rfl, [], [], [(2000, 39000)], rfl, (by (simp only [go_sem, hb2]) <;> (repeat' with_reducible apply And.intro) <;> first | assumption | rfl | omega | (unfold maxLen; omega))⟩

set_option maxRecDepth 100000 in
set_option maxHeartbeats 2000000 in
theorem hc_weave_Both (l : Int × (List (Int × Int))) (w : List Int) (v0 : List Int) {r : (List Int) × Int} (h : weave_Both l w v0 = some r) : HC Try.prog 52 [] [.agg [.int .i64 l.1, .sl (.pair (.int .i64) (.int .i64)) l.2], .sl (.int .i64) w, .sl (.int .i64) v0] [] (.tup [.sl (.int .i64) r.1, .int .i64 r.2]) := by
  unfold weave_Both at h
  refine HC.of_body tab_ok (res := [.tmp 6, .tmp 7]) Try.func52 rfl (by kernel_rfl) rfl (nt := 61) rfl (by decide) (by simp) ?_
  refine AW.seq ?_
  refine AW.ops ?_
  refine AO.allF tab_ok (by decide) [(1, .sl (.int .i64) w), (2, .sl (.int .i64) v0), (3, .bp 3 0)] [(3, .box 24 [.int .i64 l.1, .sl (.pair (.int .i64) (.int .i64)) l.2])] (by (simp only [go_sem]) <;> (repeat' with_reducible apply And.intro) <;> first | assumption | rfl | omega | (unfold maxLen; omega)) ?_
  refine athen_n ?_
  refine AW.seq ?_
  refine AW.ops ?_
  refine AO.segF tab_ok 4 (by decide) [(1, .sl (.int .i64) w), (2, .sl (.int .i64) v0), (16, .agg [.int .i64 l.1, .sl (.pair (.int .i64) (.int .i64)) l.2]), (19, .own 19)] [(19, .arr 25 (.sl (.int .i64)) [w, v0])] (by (simp only [go_sem]) <;> (repeat' with_reducible apply And.intro) <;> first | assumption | rfl | omega | (unfold maxLen; omega)) ?_
  obtain ⟨v0_2, hv1, h⟩ := Option.bind_eq_some_iff.1 h
  refine AO.call tab_ok (by decide) rfl rfl rfl (fun _ h => h) [19] [] (hc_weave_checked l [w, v0] hv1) rfl (by (simp only [go_sem]) <;> (repeat' with_reducible apply And.intro) <;> first | assumption | rfl | omega | (unfold maxLen; omega)) (by (simp only [go_sem]) <;> (repeat' with_reducible apply And.intro) <;> first | assumption | rfl | omega | (unfold maxLen; omega)) [(1, .sl (.int .i64) w), (2, .sl (.int .i64) v0), (20, .tup [.agg (cellsX T59 v0_2.1), .int .i64 v0_2.2])] [] (by (simp only [go_sem]) <;> (repeat' with_reducible apply And.intro) <;> first | assumption | rfl | omega | (unfold maxLen; omega)) ?_
  refine AO.allF tab_ok (by decide) [(1, .sl (.int .i64) w), (2, .sl (.int .i64) v0), (8, .bp 8 0), (9, .int .i64 v0_2.2)] [(8, .box 59 (cellsX T59 v0_2.1))] (by (simp only [go_sem]) <;> (repeat' with_reducible apply And.intro) <;> first | assumption | rfl | omega | (unfold maxLen; omega)) ?_
  refine athen_n ?_
  refine AW.seq ?_
  refine AW.seq ?_
  refine AW.ops ?_
  refine AO.allF tab_ok (by decide) [(1, .sl (.int .i64) w), (2, .sl (.int .i64) v0), (8, .bp 8 0), (9, .int .i64 v0_2.2), (24, .bool (!(decide (v0_2.2 = 0))))] [(8, .box 59 (cellsX T59 v0_2.1))] (by (simp only [go_sem]) <;> (repeat' with_reducible apply And.intro) <;> first | assumption | rfl | omega | (unfold maxLen; omega)) ?_
  refine athen_n ?_
  refine AW.cond (b := (!(decide (v0_2.2 = 0)))) rfl (fun hb2 => ?_) (fun hb2 => ?_)
  · rw [if_pos hb2] at h
    refine AW.seq ?_
    refine AW.ops ?_
    refine AO.allF tab_ok (by decide) [(6, .cv (.slice none 0 0)), (7, .int .i64 v0_2.2)] [] (by (simp only [go_sem, hb2]) <;> (repeat' with_reducible apply And.intro) <;> first | assumption | rfl | omega | (unfold maxLen; omega)) ?_
    refine athen_n ?_
    refine AW.ret ?_
    refine athen_r ?_
    obtain rfl := Option.some.inj h
    exact ⟨rfl, [], [], [], rfl, (by (simp only [go_sem, hb2]) <;> (repeat' with_reducible apply And.intro) <;> first | assumption | rfl | omega | (unfold maxLen; omega))⟩
  · rw [if_neg (Bool.eq_false_iff.1 hb2)] at h
    refine AW.skip ?_
    refine athen_n ?_
    refine AW.seq ?_
    refine AW.ops ?_
    refine AO.segF tab_ok 3 (by decide) [(8, .bp 8 0), (27, .agg (cellsX T59 v0_2.1)), (28, .sl (.int .i64) w), (29, .sl (.int .i64) v0)] [(8, .box 59 (cellsX T59 v0_2.1))] (by (simp only [go_sem, hb2]) <;> (repeat' with_reducible apply And.intro) <;> first | assumption | rfl | omega | (unfold maxLen; omega)) ?_
    obtain ⟨v0_3, hv3, h⟩ := Option.bind_eq_some_iff.1 h
    refine AO.call tab_ok (by decide) rfl rfl rfl (fun _ h => h) [] [] (hc_weave_ties_split fuel v0_2.1 w v0 hv3) rfl (by (simp only [go_sem, hb2]) <;> (repeat' with_reducible apply And.intro) <;> first | assumption | rfl | omega | (unfold maxLen; omega)) (by (simp only [go_sem, hb2]) <;> (repeat' with_reducible apply And.intro) <;> first | assumption | rfl | omega | (unfold maxLen; omega)) [(8, .bp 8 0), (30, .tup [.own 40000, .sl (.int .i64) v0_3.2.1, .sl (.int .i64) v0_3.2.2])] [(8, .box 59 (cellsX T59 v0_2.1)), (40000, .arr 3 (.int .i64) v0_3.1)] (by (simp only [go_sem, hb2]) <;> (repeat' with_reducible apply And.intro) <;> first | assumption | rfl | omega | (unfold maxLen; omega)) ?_
    refine AO.allF tab_ok (by decide) [(8, .bp 8 0), (10, .own 40000), (11, .sl (.int .i64) v0_3.2.1), (12, .sl (.int .i64) v0_3.2.2)] [(8, .box 59 (cellsX T59 v0_2.1)), (40000, .arr 3 (.int .i64) v0_3.1)] (by (simp only [go_sem, hb2]) <;> (repeat' with_reducible apply And.intro) <;> first | assumption | rfl | omega | (unfold maxLen; omega)) ?_
    refine athen_n ?_
    refine AW.have1 (fun _ : Unit => weave_Both_k1 v0_2 v0_3 = some r) (fun _ => ⟨fr [(8, .bp 8 0), (10, .own 40000), (11, .sl (.int .i64) v0_3.2.1), (12, .sl (.int .i64) v0_3.2.2)], hpGet [(8, .box 59 (cellsX T59 v0_2.1)), (40000, .arr 3 (.int .i64) v0_3.1)], gt⟩) (fun _ h => ?_) (fun hk_weave_Both_k1 => ?_)
    · unfold weave_Both_k1 at h
      refine AW.seq ?_
      refine AW.seq ?_
      refine AW.ops ?_
      obtain ⟨c4, h⟩ := ck_some.1 h
      obtain ⟨c5, h⟩ := ck_some.1 h
      refine AO.allF tab_ok (by decide) [(8, .bp 8 0), (10, .own 40000), (11, .sl (.int .i64) v0_3.2.1), (12, .sl (.int .i64) v0_3.2.2), (53, .bool (decide (10 < (((v0_3.1.length : Int) + (v0_3.2.1.length : Int)) + (v0_3.2.2.length : Int)))))] [(8, .box 59 (cellsX T59 v0_2.1)), (40000, .arr 3 (.int .i64) v0_3.1)] (by (simp only [go_sem, hb2]) <;> (repeat' with_reducible apply And.intro) <;> first | assumption | rfl | omega | (unfold maxLen; omega)) ?_
      refine athen_n ?_
      refine AW.cond (b := (decide (10 < (((v0_3.1.length : Int) + (v0_3.2.1.length : Int)) + (v0_3.2.2.length : Int))))) rfl (fun hb6 => ?_) (fun hb6 => ?_)
      · rw [if_pos hb6] at h
        refine AW.seq ?_
        refine AW.ops ?_
        refine AO.allF tab_ok (by decide) [(6, .cv (.slice none 0 0)), (7, .int .i64 4)] [] (by (simp only [go_sem, hb2, hb6]) <;> (repeat' with_reducible apply And.intro) <;> first | assumption | rfl | omega | (unfold maxLen; omega)) ?_
        refine athen_n ?_
        refine AW.ret ?_
        refine athen_r ?_
        obtain rfl := Option.some.inj h
        exact ⟨rfl, [], [], [], rfl, (by (simp only [go_sem, hb2, hb6]) <;> (repeat' with_reducible apply And.intro) <;> first | assumption | rfl | omega | (unfold maxLen; omega))⟩
      · rw [if_neg (Bool.eq_false_iff.1 hb6)] at h
        refine AW.skip ?_
        refine athen_n ?_
        refine AW.seq ?_
        refine AW.draw tab_ok mixed_ok [(4, [58, 40000]), (5, [69000]), (6, [69000])] [(0, [8])] (by decide) (by kernel_rfl) ?_
        refine adops_cut 5 (fun K' hK7 => ?_)
        try dsimp only [List.drop_succ_cons, List.drop_zero, List.take_succ_cons, List.take_zero]
        simp only [go_sem, hb2, hb6]
        repeat (with_reducible refine And.intro (by first | assumption | rfl | omega | trivial | (unfold maxLen; omega)) ?_)
        refine hK7 _ ?_
        obtain ⟨v0_5, hv8, h⟩ := Option.bind_eq_some_iff.1 h
        refine adops.call (by first | trivial | rfl) rfl rfl rfl (fun _ h => h) [58] [] (hc_slices_Concat [v0_3.1, v0_3.2.1, v0_3.2.2] hv8) rfl (by (simp only [go_sem, hb2, hb6]) <;> (repeat' with_reducible apply And.intro) <;> first | assumption | rfl | omega | (unfold maxLen; omega)) (by (simp only [go_sem, hb2, hb6]) <;> (repeat' with_reducible apply And.intro) <;> first | assumption | rfl | omega | (unfold maxLen; omega)) rfl ?_
        obtain ⟨v0_6, hv9, h⟩ := Option.bind_eq_some_iff.1 h
        refine adops.call (by first | trivial | rfl) rfl rfl rfl (fun _ h => h) [69000] [] (hc_weave_ties_first v0_2.1 v0_5 hv9) rfl (by (simp only [go_sem, hb2, hb6]) <;> (repeat' with_reducible apply And.intro) <;> first | assumption | rfl | omega | (unfold maxLen; omega)) (by (simp only [go_sem, hb2, hb6]) <;> (repeat' with_reducible apply And.intro) <;> first | assumption | rfl | omega | (unfold maxLen; omega)) rfl ?_
        refine adops_cut 2 (fun K' hK10 => ?_)
        try dsimp only [List.drop_succ_cons, List.drop_zero, List.take_succ_cons, List.take_zero]
        simp only [go_sem, hb2, hb6]
        repeat (with_reducible refine And.intro (by first | assumption | rfl | omega | trivial | (unfold maxLen; omega)) ?_)
        refine hK10 _ ?_
        refine adops_nil ?_
        refine athen_n ?_
        refine AW.weaken (s' := ⟨fr [(6, .sl (.int .i64) v0_6), (7, .int .i64 0)], hpGet [], gt⟩) (Wk.to (by (simp only [go_sem, hb2, hb6]) <;> (repeat' with_reducible apply And.intro) <;> first | assumption | rfl | omega | (unfold maxLen; omega))) ?_
        refine AW.ret ?_
        obtain rfl := Option.some.inj h
        exact ⟨rfl, [], [], [], rfl, (by (simp only [go_sem, hb2, hb6]) <;> (repeat' with_reducible apply And.intro) <;> first | assumption | rfl | omega | (unfold maxLen; omega))⟩
    · refine AW.seq ?_
      refine AW.seq ?_
      refine AW.ops ?_
      refine AO.allF tab_ok (by decide) [(8, .bp 8 0), (10, .own 40000), (11, .sl (.int .i64) v0_3.2.1), (12, .sl (.int .i64) v0_3.2.2), (34, .sl (.int .i64) v0_3.2.1), (35, .int .i64 (v0_3.2.1.length : Int)), (36, .int .i64 0)] [(8, .box 59 (cellsX T59 v0_2.1)), (40000, .arr 3 (.int .i64) v0_3.1)] (by (simp only [go_sem, hb2]) <;> (repeat' with_reducible apply And.intro) <;> first | assumption | rfl | omega | (unfold maxLen; omega)) ?_
      refine athen_n ?_
      refine AW.block ?_
      obtain ⟨rv15, hw11, ho12⟩ := Option.bind_eq_some_iff.1 h
      refine AW.loopO (weave_Both_b1 v0_2 v0_3) (fun st1 => ⟨fr [(8, .bp 8 0), (10, .own 40000), (11, .sl (.int .i64) v0_3.2.1), (12, .sl (.int .i64) v0_3.2.2), (34, .sl (.int .i64) v0_3.2.1), (35, .int .i64 (v0_3.2.1.length : Int)), (36, .int .i64 st1)], hpGet [(8, .box 59 (cellsX T59 v0_2.1)), (40000, .arr 3 (.int .i64) v0_3.1)], gt⟩) 0 hw11 (Wk.le [] [] [] rfl (by (simp only [go_sem, hb2]) <;> (repeat' with_reducible apply And.intro) <;> first | assumption | rfl | omega | (unfold maxLen; omega)) (by (simp only [go_sem, hb2]) <;> (repeat' with_reducible apply And.intro) <;> first | assumption | rfl | omega | (unfold maxLen; omega))) ?_
      intro st1 x14 h hd13
      unfold weave_Both_b1 at h
      refine AW.seq ?_
      refine AW.ops ?_
      refine AO.allF tab_ok (by decide) [(8, .bp 8 0), (10, .own 40000), (11, .sl (.int .i64) v0_3.2.1), (12, .sl (.int .i64) v0_3.2.2), (34, .sl (.int .i64) v0_3.2.1), (35, .int .i64 (v0_3.2.1.length : Int)), (36, .int .i64 st1), (37, .bool (decide (st1 < (v0_3.2.1.length : Int))))] [(8, .box 59 (cellsX T59 v0_2.1)), (40000, .arr 3 (.int .i64) v0_3.1)] (by (simp only [go_sem, hb2]) <;> (repeat' with_reducible apply And.intro) <;> first | assumption | rfl | omega | (unfold maxLen; omega)) ?_
      refine athen_n ?_
      refine AW.seq ?_
      refine AW.cond (b := (decide (st1 < (v0_3.2.1.length : Int)))) rfl (fun hb16 => ?_) (fun hb16 => ?_)
      · rw [if_pos hb16] at h
        refine AW.skip ?_
        refine athen_n ?_
        refine AW.seq ?_
        refine AW.block ?_
        refine AW.seq ?_
        refine AW.ops ?_
        obtain ⟨c17, h⟩ := ck_some.1 h
        obtain ⟨c18, h⟩ := ck_some.1 h
        refine AO.allF tab_ok (by decide) [(8, .bp 8 0), (10, .own 40000), (11, .sl (.int .i64) v0_3.2.1), (12, .sl (.int .i64) v0_3.2.2), (14, .int .i64 (v0_3.2.1.getD st1.toNat 0)), (34, .sl (.int .i64) v0_3.2.1), (35, .int .i64 (v0_3.2.1.length : Int)), (36, .int .i64 st1)] [(8, .box 59 (cellsX T59 v0_2.1)), (40000, .arr 3 (.int .i64) v0_3.1)] (by (simp only [go_sem, hb2, hb16]) <;> (repeat' with_reducible apply And.intro) <;> first | assumption | rfl | omega | (unfold maxLen; omega)) ?_
        refine athen_n ?_
        refine AW.seq ?_
        refine AW.ops ?_
        refine AO.segF tab_ok 3 (by decide) [(8, .bp 8 0), (10, .own 40000), (11, .sl (.int .i64) v0_3.2.1), (12, .sl (.int .i64) v0_3.2.2), (34, .sl (.int .i64) v0_3.2.1), (35, .int .i64 (v0_3.2.1.length : Int)), (36, .int .i64 st1), (40, .agg (cellsX T59 v0_2.1)), (41, .int .i64 (v0_3.2.1.getD st1.toNat 0)), (42, .sl (.int .i64) v0_3.2.2)] [(8, .box 59 (cellsX T59 v0_2.1)), (40000, .arr 3 (.int .i64) v0_3.1)] (by (simp only [go_sem, hb2, hb16]) <;> (repeat' with_reducible apply And.intro) <;> first | assumption | rfl | omega | (unfold maxLen; omega)) ?_
        obtain ⟨v0_4, hv19, h⟩ := Option.bind_eq_some_iff.1 h
        refine AO.call tab_ok (by decide) rfl rfl rfl (fun _ h => h) [] [] (hc_weave_ties_onAny v0_2.1 (v0_3.2.1.getD st1.toNat 0) v0_3.2.2 hv19) rfl (by (simp only [go_sem, hb2, hb16]) <;> (repeat' with_reducible apply And.intro) <;> first | assumption | rfl | omega | (unfold maxLen; omega)) (by (simp only [go_sem, hb2, hb16]) <;> (repeat' with_reducible apply And.intro) <;> first | assumption | rfl | omega | (unfold maxLen; omega)) [(8, .bp 8 0), (10, .own 40000), (11, .sl (.int .i64) v0_3.2.1), (12, .sl (.int .i64) v0_3.2.2), (34, .sl (.int .i64) v0_3.2.1), (35, .int .i64 (v0_3.2.1.length : Int)), (36, .int .i64 st1), (43, .bool v0_4)] [(8, .box 59 (cellsX T59 v0_2.1)), (40000, .arr 3 (.int .i64) v0_3.1)] (by (simp only [go_sem, hb2, hb16]) <;> (repeat' with_reducible apply And.intro) <;> first | assumption | rfl | omega | (unfold maxLen; omega)) ?_
        refine AO.allF tab_ok (by decide) [(8, .bp 8 0), (10, .own 40000), (11, .sl (.int .i64) v0_3.2.1), (12, .sl (.int .i64) v0_3.2.2), (34, .sl (.int .i64) v0_3.2.1), (35, .int .i64 (v0_3.2.1.length : Int)), (36, .int .i64 st1), (43, .bool v0_4)] [(8, .box 59 (cellsX T59 v0_2.1)), (40000, .arr 3 (.int .i64) v0_3.1)] (by (simp only [go_sem, hb2, hb16]) <;> (repeat' with_reducible apply And.intro) <;> first | assumption | rfl | omega | (unfold maxLen; omega)) ?_
        refine athen_n ?_
        refine AW.cond (b := v0_4) rfl (fun hb20 => ?_) (fun hb20 => ?_)
        · rw [if_pos hb20] at h
          refine AW.seq ?_
          refine AW.ops ?_
          refine AO.allF tab_ok (by decide) [(6, .cv (.slice none 0 0)), (7, .int .i64 5)] [] (by (simp only [go_sem, hb2, hb16, hb20]) <;> (repeat' with_reducible apply And.intro) <;> first | assumption | rfl | omega | (unfold maxLen; omega)) ?_
          refine athen_n ?_
          refine AW.ret ?_
          refine ablock_r ?_
          refine athen_r ?_
          obtain rfl := Option.some.inj h
          rw [← hd13 _ rfl] at ho12
          have h := ho12
          try simp only at h
          refine athen_r ?_
          refine ablock_r ?_
          refine athen_r ?_
          obtain rfl := Option.some.inj h
          exact ⟨rfl, [], [], [], rfl, (by (simp only [go_sem, hb2, hb16, hb20]) <;> (repeat' with_reducible apply And.intro) <;> first | assumption | rfl | omega | (unfold maxLen; omega))⟩
        · rw [if_neg (Bool.eq_false_iff.1 hb20)] at h
          refine AW.skip ?_
          refine ablock_n ?_
          refine athen_n ?_
          refine AW.ops ?_
          obtain ⟨c21, h⟩ := ck_some.1 h
          refine AO.allF tab_ok (by decide) [(8, .bp 8 0), (10, .own 40000), (11, .sl (.int .i64) v0_3.2.1), (12, .sl (.int .i64) v0_3.2.2), (34, .sl (.int .i64) v0_3.2.1), (35, .int .i64 (v0_3.2.1.length : Int)), (36, .int .i64 (st1 + 1))] [(8, .box 59 (cellsX T59 v0_2.1)), (40000, .arr 3 (.int .i64) v0_3.1)] (by (simp only [go_sem, hb2, hb16, hb20]) <;> (repeat' with_reducible apply And.intro) <;> first | assumption | rfl | omega | (unfold maxLen; omega)) ?_
          obtain rfl := Option.some.inj h
          exact ⟨_, rfl, Wk.le [] [] [] rfl (by (simp only [go_sem, hb2, hb16, hb20]) <;> (repeat' with_reducible apply And.intro) <;> first | assumption | rfl | omega | (unfold maxLen; omega)) (by (simp only [go_sem, hb2, hb16, hb20]) <;> (repeat' with_reducible apply And.intro) <;> first | assumption | rfl | omega | (unfold maxLen; omega))⟩
      · rw [if_neg (Bool.eq_false_iff.1 hb16)] at h
        refine AW.exit ?_
        refine athen_e ?_
        obtain rfl := Option.some.inj h
        rw [← hd13 _ rfl] at ho12
        have h := ho12
        try simp only at h
        refine athen_e ?_
        refine ablock_s ?_
        refine athen_n ?_
        exact AW.weaken (Wk.le [] [] [] rfl (by (simp only [go_sem, hb2, hb16]) <;> (repeat' with_reducible apply And.intro) <;> first | assumption | rfl | omega | (unfold maxLen; omega)) (by (simp only [go_sem, hb2, hb16]) <;> (repeat' with_reducible apply And.intro) <;> first | assumption | rfl | omega | (unfold maxLen; omega))) (hk_weave_Both_k1 () h)

set_option maxRecDepth 100000 in
set_option maxHeartbeats 2000000 in
theorem hc_linealref03_Both (l : Int × (List (Int × Int))) (w : List Int) (v0 : List Int) {r : (List Int) × Int} (h : linealref03_Both l w v0 = some r) : HC Try.prog 53 [] [.agg [.int .i64 l.1, .sl (.pair (.int .i64) (.int .i64)) l.2], .sl (.int .i64) w, .sl (.int .i64) v0] [(2000, .arr 3 (.int .i64) r.1)] (.tup [.own 2000, .int .i64 r.2]) := by
  unfold linealref03_Both at h
  refine HC.of_body tab_ok (res := [.tmp 6, .tmp 7]) Try.func53 rfl (by kernel_rfl) rfl (nt := 58) rfl (by decide) (by simp) ?_
  refine AW.seq ?_
  refine AW.ops ?_
  refine AO.allF tab_ok (by decide) [(1, .sl (.int .i64) w), (2, .sl (.int .i64) v0), (3, .bp 3 0)] [(3, .box 24 [.int .i64 l.1, .sl (.pair (.int .i64) (.int .i64)) l.2])] (by (simp only [go_sem]) <;> (repeat' with_reducible apply And.intro) <;> first | assumption | rfl | omega | (unfold maxLen; omega)) ?_
  refine athen_n ?_
  refine AW.seq ?_
  refine AW.seq ?_
  refine AW.ops ?_
  refine AO.segF tab_ok 3 (by decide) [(1, .sl (.int .i64) w), (2, .sl (.int .i64) v0), (3, .bp 3 0), (16, .agg [.int .i64 l.1, .sl (.pair (.int .i64) (.int .i64)) l.2]), (17, .sl (.int .i64) w), (18, .sl (.int .i64) v0)] [(3, .box 24 [.int .i64 l.1, .sl (.pair (.int .i64) (.int .i64)) l.2])] (by (simp only [go_sem]) <;> (repeat' with_reducible apply And.intro) <;> first | assumption | rfl | omega | (unfold maxLen; omega)) ?_
  obtain ⟨v0_2, hv1, h⟩ := Option.bind_eq_some_iff.1 h
  refine AO.call tab_ok (by decide) rfl rfl rfl (fun _ h => h) [] [] (hc_linealref03_asked l w v0 hv1) rfl (by (simp only [go_sem]) <;> (repeat' with_reducible apply And.intro) <;> first | assumption | rfl | omega | (unfold maxLen; omega)) (by (simp only [go_sem]) <;> (repeat' with_reducible apply And.intro) <;> first | assumption | rfl | omega | (unfold maxLen; omega)) [(1, .sl (.int .i64) w), (2, .sl (.int .i64) v0), (3, .bp 3 0), (19, .int .i64 v0_2)] [(3, .box 24 [.int .i64 l.1, .sl (.pair (.int .i64) (.int .i64)) l.2])] (by (simp only [go_sem]) <;> (repeat' with_reducible apply And.intro) <;> first | assumption | rfl | omega | (unfold maxLen; omega)) ?_
  refine AO.allF tab_ok (by decide) [(1, .sl (.int .i64) w), (2, .sl (.int .i64) v0), (3, .bp 3 0), (8, .int .i64 v0_2)] [(3, .box 24 [.int .i64 l.1, .sl (.pair (.int .i64) (.int .i64)) l.2])] (by (simp only [go_sem]) <;> (repeat' with_reducible apply And.intro) <;> first | assumption | rfl | omega | (unfold maxLen; omega)) ?_
  refine athen_n ?_
  refine AW.seq ?_
  refine AW.ops ?_
  refine AO.allF tab_ok (by decide) [(1, .sl (.int .i64) w), (2, .sl (.int .i64) v0), (3, .bp 3 0), (8, .int .i64 v0_2), (21, .bool (!(decide (v0_2 = 0))))] [(3, .box 24 [.int .i64 l.1, .sl (.pair (.int .i64) (.int .i64)) l.2])] (by (simp only [go_sem]) <;> (repeat' with_reducible apply And.intro) <;> first | assumption | rfl | omega | (unfold maxLen; omega)) ?_
  refine athen_n ?_
  refine AW.cond (b := (!(decide (v0_2 = 0)))) rfl (fun hb2 => ?_) (fun hb2 => ?_)
  · rw [if_pos hb2] at h
    refine AW.seq ?_
    refine AW.ops ?_
    refine AO.allF tab_ok (by decide) [(6, .cv (.slice none 0 0)), (7, .int .i64 v0_2)] [] (by (simp only [go_sem, hb2]) <;> (repeat' with_reducible apply And.intro) <;> first | assumption | rfl | omega | (unfold maxLen; omega)) ?_
    refine athen_n ?_
    refine AW.ret ?_
    refine athen_r ?_
    obtain rfl := Option.some.inj h
    exact ⟨rfl, [], [2000], [], rfl, (by (simp only [go_sem, hb2]) <;> (repeat' with_reducible apply And.intro) <;> first | assumption | rfl | omega | (unfold maxLen; omega))⟩
  · rw [if_neg (Bool.eq_false_iff.1 hb2)] at h
    refine AW.skip ?_
    refine athen_n ?_
    refine AW.seq ?_
    refine AW.ops ?_
    refine AO.segF tab_ok 3 (by decide) [(3, .bp 3 0), (24, .agg [.int .i64 l.1, .sl (.pair (.int .i64) (.int .i64)) l.2]), (25, .sl (.int .i64) w), (26, .sl (.int .i64) v0)] [(3, .box 24 [.int .i64 l.1, .sl (.pair (.int .i64) (.int .i64)) l.2])] (by (simp only [go_sem, hb2]) <;> (repeat' with_reducible apply And.intro) <;> first | assumption | rfl | omega | (unfold maxLen; omega)) ?_
    obtain ⟨v0_3, hv3, h⟩ := Option.bind_eq_some_iff.1 h
    refine AO.call tab_ok (by decide) rfl rfl rfl (fun _ h => h) [] [] (hc_linealref03_common l w v0 hv3) rfl (by (simp only [go_sem, hb2]) <;> (repeat' with_reducible apply And.intro) <;> first | assumption | rfl | omega | (unfold maxLen; omega)) (by (simp only [go_sem, hb2]) <;> (repeat' with_reducible apply And.intro) <;> first | assumption | rfl | omega | (unfold maxLen; omega)) [(3, .bp 3 0), (27, .tup [.own 37000, .sl (.int .i64) v0_3.2.1, .sl (.int .i64) v0_3.2.2])] [(3, .box 24 [.int .i64 l.1, .sl (.pair (.int .i64) (.int .i64)) l.2]), (37000, .arr 3 (.int .i64) v0_3.1)] (by (simp only [go_sem, hb2]) <;> (repeat' with_reducible apply And.intro) <;> first | assumption | rfl | omega | (unfold maxLen; omega)) ?_
    refine AO.allF tab_ok (by decide) [(3, .bp 3 0), (9, .own 37000), (10, .sl (.int .i64) v0_3.2.1), (11, .sl (.int .i64) v0_3.2.2)] [(3, .box 24 [.int .i64 l.1, .sl (.pair (.int .i64) (.int .i64)) l.2]), (37000, .arr 3 (.int .i64) v0_3.1)] (by (simp only [go_sem, hb2]) <;> (repeat' with_reducible apply And.intro) <;> first | assumption | rfl | omega | (unfold maxLen; omega)) ?_
    refine athen_n ?_
    refine AW.have1 (fun _ : Unit => linealref03_Both_k1 l v0_3 = some r) (fun _ => ⟨fr [(3, .bp 3 0), (9, .own 37000), (10, .sl (.int .i64) v0_3.2.1), (11, .sl (.int .i64) v0_3.2.2)], hpGet [(3, .box 24 [.int .i64 l.1, .sl (.pair (.int .i64) (.int .i64)) l.2]), (37000, .arr 3 (.int .i64) v0_3.1)], gt⟩) (fun _ h => ?_) (fun hk_linealref03_Both_k1 => ?_)
    · unfold linealref03_Both_k1 at h
      refine AW.seq ?_
      refine AW.draw tab_ok mixed_ok [(3, [52, 37000]), (5, [52, 54]), (6, [65000])] [(0, [3]), (4, [])] (by decide) (by kernel_rfl) ?_
      obtain ⟨c5, h⟩ := ck_some.1 h
      obtain ⟨c6, h⟩ := ck_some.1 h
      refine adops_cut 6 (fun K' hK4 => ?_)
      try dsimp only [List.drop_succ_cons, List.drop_zero, List.take_succ_cons, List.take_zero]
      simp only [go_sem, hb2]
      repeat (with_reducible refine And.intro (by first | assumption | rfl | omega | trivial | (unfold maxLen; omega)) ?_)
      refine hK4 _ ?_
      obtain ⟨v0_5, hv7, h⟩ := Option.bind_eq_some_iff.1 h
      refine adops.call (by first | trivial | rfl) rfl rfl rfl (fun _ h => h) [54] [] (hc_linealref03_limited l ((v0_3.1 ++ v0_3.2.1) ++ v0_3.2.2) hv7) rfl (by (simp only [go_sem, hb2]) <;> (repeat' with_reducible apply And.intro) <;> first | assumption | rfl | omega | (unfold maxLen; omega)) (by (simp only [go_sem, hb2]) <;> (repeat' with_reducible apply And.intro) <;> first | assumption | rfl | omega | (unfold maxLen; omega)) rfl ?_
      refine adops_cut 4 (fun K' hK8 => ?_)
      try dsimp only [List.drop_succ_cons, List.drop_zero, List.take_succ_cons, List.take_zero]
      simp only [go_sem, hb2]
      repeat (with_reducible refine And.intro (by first | assumption | rfl | omega | trivial | (unfold maxLen; omega)) ?_)
      refine hK8 _ ?_
      refine adops_nil ?_
      refine athen_n ?_
      refine AW.weaken (s' := ⟨fr [(6, .own 65000), (7, .int .i64 v0_5.2)], hpGet [(65000, .arr 3 (.int .i64) v0_5.1)], gt⟩) (Wk.to (by (simp only [go_sem, hb2]) <;> (repeat' with_reducible apply And.intro) <;> first | assumption | rfl | omega | (unfold maxLen; omega))) ?_
      refine AW.ret ?_
      obtain rfl := Option.some.inj h
      exact ⟨rfl, [], [], [(2000, 65000)], rfl, (by (simp only [go_sem, hb2]) <;> (repeat' with_reducible apply And.intro) <;> first | assumption | rfl | omega | (unfold maxLen; omega))⟩
    · refine AW.seq ?_
      refine AW.seq ?_
      refine AW.ops ?_
      refine AO.allF tab_ok (by decide) [(3, .bp 3 0), (9, .own 37000), (10, .sl (.int .i64) v0_3.2.1), (11, .sl (.int .i64) v0_3.2.2), (31, .sl (.int .i64) v0_3.2.1), (32, .int .i64 (v0_3.2.1.length : Int)), (33, .int .i64 0)] [(3, .box 24 [.int .i64 l.1, .sl (.pair (.int .i64) (.int .i64)) l.2]), (37000, .arr 3 (.int .i64) v0_3.1)] (by (simp only [go_sem, hb2]) <;> (repeat' with_reducible apply And.intro) <;> first | assumption | rfl | omega | (unfold maxLen; omega)) ?_
      refine athen_n ?_
      refine AW.block ?_
      obtain ⟨rv13, hw9, ho10⟩ := Option.bind_eq_some_iff.1 h
      refine AW.loopO (linealref03_Both_b1 l v0_3) (fun st1 => ⟨fr [(3, .bp 3 0), (9, .own 37000), (10, .sl (.int .i64) v0_3.2.1), (11, .sl (.int .i64) v0_3.2.2), (31, .sl (.int .i64) v0_3.2.1), (32, .int .i64 (v0_3.2.1.length : Int)), (33, .int .i64 st1)], hpGet [(3, .box 24 [.int .i64 l.1, .sl (.pair (.int .i64) (.int .i64)) l.2]), (37000, .arr 3 (.int .i64) v0_3.1)], gt⟩) 0 hw9 (Wk.le [] [] [] rfl (by (simp only [go_sem, hb2]) <;> (repeat' with_reducible apply And.intro) <;> first | assumption | rfl | omega | (unfold maxLen; omega)) (by (simp only [go_sem, hb2]) <;> (repeat' with_reducible apply And.intro) <;> first | assumption | rfl | omega | (unfold maxLen; omega))) ?_
      intro st1 x12 h hd11
      unfold linealref03_Both_b1 at h
      refine AW.seq ?_
      refine AW.ops ?_
      refine AO.allF tab_ok (by decide) [(3, .bp 3 0), (9, .own 37000), (10, .sl (.int .i64) v0_3.2.1), (11, .sl (.int .i64) v0_3.2.2), (31, .sl (.int .i64) v0_3.2.1), (32, .int .i64 (v0_3.2.1.length : Int)), (33, .int .i64 st1), (34, .bool (decide (st1 < (v0_3.2.1.length : Int))))] [(3, .box 24 [.int .i64 l.1, .sl (.pair (.int .i64) (.int .i64)) l.2]), (37000, .arr 3 (.int .i64) v0_3.1)] (by (simp only [go_sem, hb2]) <;> (repeat' with_reducible apply And.intro) <;> first | assumption | rfl | omega | (unfold maxLen; omega)) ?_
      refine athen_n ?_
      refine AW.seq ?_
      refine AW.cond (b := (decide (st1 < (v0_3.2.1.length : Int)))) rfl (fun hb14 => ?_) (fun hb14 => ?_)
      · rw [if_pos hb14] at h
        refine AW.skip ?_
        refine athen_n ?_
        refine AW.have1 (fun _ : Unit => linealref03_Both_k2 st1 = some x12) (fun _ => ⟨fr [(3, .bp 3 0), (9, .own 37000), (10, .sl (.int .i64) v0_3.2.1), (11, .sl (.int .i64) v0_3.2.2), (31, .sl (.int .i64) v0_3.2.1), (32, .int .i64 (v0_3.2.1.length : Int)), (33, .int .i64 st1)], hpGet [(3, .box 24 [.int .i64 l.1, .sl (.pair (.int .i64) (.int .i64)) l.2]), (37000, .arr 3 (.int .i64) v0_3.1)], gt⟩) (fun _ h => ?_) (fun hk_linealref03_Both_k2 => ?_)
        · unfold linealref03_Both_k2 at h
          refine AW.ops ?_
          obtain ⟨c15, h⟩ := ck_some.1 h
          refine AO.allF tab_ok (by decide) [(3, .bp 3 0), (9, .own 37000), (10, .sl (.int .i64) v0_3.2.1), (11, .sl (.int .i64) v0_3.2.2), (31, .sl (.int .i64) v0_3.2.1), (32, .int .i64 (v0_3.2.1.length : Int)), (33, .int .i64 (st1 + 1))] [(3, .box 24 [.int .i64 l.1, .sl (.pair (.int .i64) (.int .i64)) l.2]), (37000, .arr 3 (.int .i64) v0_3.1)] (by (simp only [go_sem, hb2, hb14]) <;> (repeat' with_reducible apply And.intro) <;> first | assumption | rfl | omega | (unfold maxLen; omega)) ?_
          obtain rfl := Option.some.inj h
          exact ⟨_, rfl, Wk.le [] [] [] rfl (by (simp only [go_sem, hb2, hb14]) <;> (repeat' with_reducible apply And.intro) <;> first | assumption | rfl | omega | (unfold maxLen; omega)) (by (simp only [go_sem, hb2, hb14]) <;> (repeat' with_reducible apply And.intro) <;> first | assumption | rfl | omega | (unfold maxLen; omega))⟩
        · refine AW.seq ?_
          refine AW.block ?_
          refine AW.seq ?_
          refine AW.ops ?_
          obtain ⟨c16, h⟩ := ck_some.1 h
          obtain ⟨c17, h⟩ := ck_some.1 h
          refine AO.allF tab_ok (by decide) [(3, .bp 3 0), (9, .own 37000), (10, .sl (.int .i64) v0_3.2.1), (11, .sl (.int .i64) v0_3.2.2), (13, .int .i64 (v0_3.2.1.getD st1.toNat 0)), (31, .sl (.int .i64) v0_3.2.1), (32, .int .i64 (v0_3.2.1.length : Int)), (33, .int .i64 st1)] [(3, .box 24 [.int .i64 l.1, .sl (.pair (.int .i64) (.int .i64)) l.2]), (37000, .arr 3 (.int .i64) v0_3.1)] (by (simp only [go_sem, hb2, hb14]) <;> (repeat' with_reducible apply And.intro) <;> first | assumption | rfl | omega | (unfold maxLen; omega)) ?_
          refine athen_n ?_
          refine AW.seq ?_
          refine AW.ops ?_
          refine AO.allF tab_ok (by decide) [(3, .bp 3 0), (9, .own 37000), (10, .sl (.int .i64) v0_3.2.1), (11, .sl (.int .i64) v0_3.2.2), (13, .int .i64 (v0_3.2.1.getD st1.toNat 0)), (31, .sl (.int .i64) v0_3.2.1), (32, .int .i64 (v0_3.2.1.length : Int)), (33, .int .i64 st1), (37, .sl (.int .i64) v0_3.2.2), (38, .int .i64 (v0_3.2.2.length : Int)), (39, .int .i64 0)] [(3, .box 24 [.int .i64 l.1, .sl (.pair (.int .i64) (.int .i64)) l.2]), (37000, .arr 3 (.int .i64) v0_3.1)] (by (simp only [go_sem, hb2, hb14]) <;> (repeat' with_reducible apply And.intro) <;> first | assumption | rfl | omega | (unfold maxLen; omega)) ?_
          refine athen_n ?_
          refine AW.block ?_
          obtain ⟨rv22, hw18, ho19⟩ := Option.bind_eq_some_iff.1 h
          refine AW.loopO (linealref03_Both_b2 l v0_3 st1) (fun st2 => ⟨fr [(3, .bp 3 0), (9, .own 37000), (10, .sl (.int .i64) v0_3.2.1), (11, .sl (.int .i64) v0_3.2.2), (13, .int .i64 (v0_3.2.1.getD st1.toNat 0)), (31, .sl (.int .i64) v0_3.2.1), (32, .int .i64 (v0_3.2.1.length : Int)), (33, .int .i64 st1), (37, .sl (.int .i64) v0_3.2.2), (38, .int .i64 (v0_3.2.2.length : Int)), (39, .int .i64 st2)], hpGet [(3, .box 24 [.int .i64 l.1, .sl (.pair (.int .i64) (.int .i64)) l.2]), (37000, .arr 3 (.int .i64) v0_3.1)], gt⟩) 0 hw18 (Wk.le [] [] [] rfl (by (simp only [go_sem, hb2, hb14]) <;> (repeat' with_reducible apply And.intro) <;> first | assumption | rfl | omega | (unfold maxLen; omega)) (by (simp only [go_sem, hb2, hb14]) <;> (repeat' with_reducible apply And.intro) <;> first | assumption | rfl | omega | (unfold maxLen; omega))) ?_
          intro st2 x21 h hd20
          unfold linealref03_Both_b2 at h
          refine AW.seq ?_
          refine AW.ops ?_
          refine AO.allF tab_ok (by decide) [(3, .bp 3 0), (9, .own 37000), (10, .sl (.int .i64) v0_3.2.1), (11, .sl (.int .i64) v0_3.2.2), (13, .int .i64 (v0_3.2.1.getD st1.toNat 0)), (31, .sl (.int .i64) v0_3.2.1), (32, .int .i64 (v0_3.2.1.length : Int)), (33, .int .i64 st1), (37, .sl (.int .i64) v0_3.2.2), (38, .int .i64 (v0_3.2.2.length : Int)), (39, .int .i64 st2), (40, .bool (decide (st2 < (v0_3.2.2.length : Int))))] [(3, .box 24 [.int .i64 l.1, .sl (.pair (.int .i64) (.int .i64)) l.2]), (37000, .arr 3 (.int .i64) v0_3.1)] (by (simp only [go_sem, hb2, hb14]) <;> (repeat' with_reducible apply And.intro) <;> first | assumption | rfl | omega | (unfold maxLen; omega)) ?_
          refine athen_n ?_
          refine AW.seq ?_
          refine AW.cond (b := (decide (st2 < (v0_3.2.2.length : Int)))) rfl (fun hb23 => ?_) (fun hb23 => ?_)
          · rw [if_pos hb23] at h
            refine AW.skip ?_
            refine athen_n ?_
            refine AW.seq ?_
            refine AW.block ?_
            refine AW.seq ?_
            refine AW.ops ?_
            obtain ⟨c24, h⟩ := ck_some.1 h
            obtain ⟨c25, h⟩ := ck_some.1 h
            refine AO.allF tab_ok (by decide) [(3, .bp 3 0), (9, .own 37000), (10, .sl (.int .i64) v0_3.2.1), (11, .sl (.int .i64) v0_3.2.2), (13, .int .i64 (v0_3.2.1.getD st1.toNat 0)), (15, .int .i64 (v0_3.2.2.getD st2.toNat 0)), (31, .sl (.int .i64) v0_3.2.1), (32, .int .i64 (v0_3.2.1.length : Int)), (33, .int .i64 st1), (37, .sl (.int .i64) v0_3.2.2), (38, .int .i64 (v0_3.2.2.length : Int)), (39, .int .i64 st2)] [(3, .box 24 [.int .i64 l.1, .sl (.pair (.int .i64) (.int .i64)) l.2]), (37000, .arr 3 (.int .i64) v0_3.1)] (by (simp only [go_sem, hb2, hb14, hb23]) <;> (repeat' with_reducible apply And.intro) <;> first | assumption | rfl | omega | (unfold maxLen; omega)) ?_
            refine athen_n ?_
            refine AW.seq ?_
            refine AW.ops ?_
            refine AO.segF tab_ok 3 (by decide) [(3, .bp 3 0), (9, .own 37000), (10, .sl (.int .i64) v0_3.2.1), (11, .sl (.int .i64) v0_3.2.2), (13, .int .i64 (v0_3.2.1.getD st1.toNat 0)), (31, .sl (.int .i64) v0_3.2.1), (32, .int .i64 (v0_3.2.1.length : Int)), (33, .int .i64 st1), (37, .sl (.int .i64) v0_3.2.2), (38, .int .i64 (v0_3.2.2.length : Int)), (39, .int .i64 st2), (43, .agg [.int .i64 l.1, .sl (.pair (.int .i64) (.int .i64)) l.2]), (44, .int .i64 (v0_3.2.1.getD st1.toNat 0)), (45, .int .i64 (v0_3.2.2.getD st2.toNat 0))] [(3, .box 24 [.int .i64 l.1, .sl (.pair (.int .i64) (.int .i64)) l.2]), (37000, .arr 3 (.int .i64) v0_3.1)] (by (simp only [go_sem, hb2, hb14, hb23]) <;> (repeat' with_reducible apply And.intro) <;> first | assumption | rfl | omega | (unfold maxLen; omega)) ?_
            obtain ⟨v0_4, hv26, h⟩ := Option.bind_eq_some_iff.1 h
            refine AO.call tab_ok (by decide) rfl rfl rfl (fun _ h => h) [] [] (hc_linealref03_depend l (v0_3.2.1.getD st1.toNat 0) (v0_3.2.2.getD st2.toNat 0) hv26) rfl (by (simp only [go_sem, hb2, hb14, hb23]) <;> (repeat' with_reducible apply And.intro) <;> first | assumption | rfl | omega | (unfold maxLen; omega)) (by (simp only [go_sem, hb2, hb14, hb23]) <;> (repeat' with_reducible apply And.intro) <;> first | assumption | rfl | omega | (unfold maxLen; omega)) [(3, .bp 3 0), (9, .own 37000), (10, .sl (.int .i64) v0_3.2.1), (11, .sl (.int .i64) v0_3.2.2), (13, .int .i64 (v0_3.2.1.getD st1.toNat 0)), (31, .sl (.int .i64) v0_3.2.1), (32, .int .i64 (v0_3.2.1.length : Int)), (33, .int .i64 st1), (37, .sl (.int .i64) v0_3.2.2), (38, .int .i64 (v0_3.2.2.length : Int)), (39, .int .i64 st2), (46, .bool v0_4)] [(3, .box 24 [.int .i64 l.1, .sl (.pair (.int .i64) (.int .i64)) l.2]), (37000, .arr 3 (.int .i64) v0_3.1)] (by (simp only [go_sem, hb2, hb14, hb23]) <;> (repeat' with_reducible apply And.intro) <;> first | assumption | rfl | omega | (unfold maxLen; omega)) ?_
            refine AO.allF tab_ok (by decide) [(3, .bp 3 0), (9, .own 37000), (10, .sl (.int .i64) v0_3.2.1), (11, .sl (.int .i64) v0_3.2.2), (13, .int .i64 (v0_3.2.1.getD st1.toNat 0)), (31, .sl (.int .i64) v0_3.2.1), (32, .int .i64 (v0_3.2.1.length : Int)), (33, .int .i64 st1), (37, .sl (.int .i64) v0_3.2.2), (38, .int .i64 (v0_3.2.2.length : Int)), (39, .int .i64 st2), (46, .bool v0_4)] [(3, .box 24 [.int .i64 l.1, .sl (.pair (.int .i64) (.int .i64)) l.2]), (37000, .arr 3 (.int .i64) v0_3.1)] (by (simp only [go_sem, hb2, hb14, hb23]) <;> (repeat' with_reducible apply And.intro) <;> first | assumption | rfl | omega | (unfold maxLen; omega)) ?_
            refine athen_n ?_
            refine AW.cond (b := v0_4) rfl (fun hb27 => ?_) (fun hb27 => ?_)
            · rw [if_pos hb27] at h
              refine AW.seq ?_
              refine AW.ops ?_
              refine AO.allF tab_ok (by decide) [(6, .cv (.slice none 0 0)), (7, .int .i64 5)] [] (by (simp only [go_sem, hb2, hb14, hb23, hb27]) <;> (repeat' with_reducible apply And.intro) <;> first | assumption | rfl | omega | (unfold maxLen; omega)) ?_
              refine athen_n ?_
              refine AW.ret ?_
              refine ablock_r ?_
              refine athen_r ?_
              obtain rfl := Option.some.inj h
              rw [← hd20 _ rfl] at ho19
              have h := ho19
              try simp only at h
              refine athen_r ?_
              refine ablock_r ?_
              refine ablock_r ?_
              refine athen_r ?_
              obtain rfl := Option.some.inj h
              rw [← hd11 _ rfl] at ho10
              have h := ho10
              try simp only at h
              refine athen_r ?_
              refine ablock_r ?_
              refine athen_r ?_
              obtain rfl := Option.some.inj h
              exact ⟨rfl, [], [2000], [], rfl, (by (simp only [go_sem, hb2, hb14, hb23, hb27]) <;> (repeat' with_reducible apply And.intro) <;> first | assumption | rfl | omega | (unfold maxLen; omega))⟩
            · rw [if_neg (Bool.eq_false_iff.1 hb27)] at h
              refine AW.skip ?_
              refine ablock_n ?_
              refine athen_n ?_
              refine AW.ops ?_
              obtain ⟨c28, h⟩ := ck_some.1 h
              refine AO.allF tab_ok (by decide) [(3, .bp 3 0), (9, .own 37000), (10, .sl (.int .i64) v0_3.2.1), (11, .sl (.int .i64) v0_3.2.2), (13, .int .i64 (v0_3.2.1.getD st1.toNat 0)), (31, .sl (.int .i64) v0_3.2.1), (32, .int .i64 (v0_3.2.1.length : Int)), (33, .int .i64 st1), (37, .sl (.int .i64) v0_3.2.2), (38, .int .i64 (v0_3.2.2.length : Int)), (39, .int .i64 (st2 + 1))] [(3, .box 24 [.int .i64 l.1, .sl (.pair (.int .i64) (.int .i64)) l.2]), (37000, .arr 3 (.int .i64) v0_3.1)] (by (simp only [go_sem, hb2, hb14, hb23, hb27]) <;> (repeat' with_reducible apply And.intro) <;> first | assumption | rfl | omega | (unfold maxLen; omega)) ?_
              obtain rfl := Option.some.inj h
              exact ⟨_, rfl, Wk.le [] [] [] rfl (by (simp only [go_sem, hb2, hb14, hb23, hb27]) <;> (repeat' with_reducible apply And.intro) <;> first | assumption | rfl | omega | (unfold maxLen; omega)) (by (simp only [go_sem, hb2, hb14, hb23, hb27]) <;> (repeat' with_reducible apply And.intro) <;> first | assumption | rfl | omega | (unfold maxLen; omega))⟩
          · rw [if_neg (Bool.eq_false_iff.1 hb23)] at h
            refine AW.exit ?_
            refine athen_e ?_
            obtain rfl := Option.some.inj h
            rw [← hd20 _ rfl] at ho19
            have h := ho19
            try simp only at h
            refine athen_e ?_
            refine ablock_s ?_
            refine ablock_n ?_
            refine athen_n ?_
            exact AW.weaken (Wk.le [] [] [] rfl (by (simp only [go_sem, hb2, hb14, hb23]) <;> (repeat' with_reducible apply And.intro) <;> first | assumption | rfl | omega | (unfold maxLen; omega)) (by (simp only [go_sem, hb2, hb14, hb23]) <;> (repeat' with_reducible apply And.intro) <;> first | assumption | rfl | omega | (unfold maxLen; omega))) (hk_linealref03_Both_k2 () h)
      · rw [if_neg (Bool.eq_false_iff.1 hb14)] at h
        refine AW.exit ?_
        refine athen_e ?_
        obtain rfl := Option.some.inj h
        rw [← hd11 _ rfl] at ho10
        have h := ho10
        try simp only at h
        refine athen_e ?_
        refine ablock_s ?_
        refine athen_n ?_
        exact AW.weaken (Wk.le [] [] [] rfl (by (simp only [go_sem, hb2, hb14]) <;> (repeat' with_reducible apply And.intro) <;> first | assumption | rfl | omega | (unfold maxLen; omega)) (by (simp only [go_sem, hb2, hb14]) <;> (repeat' with_reducible apply And.intro) <;> first | assumption | rfl | omega | (unfold maxLen; omega))) (hk_linealref03_Both_k1 () h)

end Go.Proofs.Ytcijihofjcfpoab
