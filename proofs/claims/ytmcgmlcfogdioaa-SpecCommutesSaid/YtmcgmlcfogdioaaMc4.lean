/-
  Made by wip/tool/dc.py out of the print of the program: contracts.
-/
import Derived.Test.YtmcgmlcfogdioaaQp
import Derived.Test.YtmcgmlcfogdioaaTb
import Derived.Test.YtmcgmlcfogdioaaBl
import Derived.Test.YtmcgmlcfogdioaaMc1
import Derived.Test.YtmcgmlcfogdioaaMc2
import Derived.Test.YtmcgmlcfogdioaaMc3
namespace Go.Proofs.Ytmcgmlcfogdioaa
open Go.RowKit

set_option linter.unusedSimpArgs false
set_option linter.unusedVariables false
set_option linter.constructorNameAsVariable false

set_option maxRecDepth 100000 in
set_option maxHeartbeats 2000000 in
theorem ic_spec_machine_ways_1 {S R : Type} (a1 : Int × Int × (List (List Int)) × (List (List Int))) (yl : Int × (List Int) → S → Option (Step S R)) (s0 : S) {r : Sum S R} (h : spec_machine_ways_1 S R a1 yl s0 = some r) : IC Try.prog 97 [(1000, .box 60 [.int .i64 a1.1, .int .i64 a1.2.1, .sl (.sl (.int .i64)) a1.2.2.1, .sl (.sl (.int .i64)) a1.2.2.2])] [.bp 1000 0] (fun (y : Int × (List Int)) => [.int .i64 y.1, .sl (.int .i64) y.2]) yl s0 r := by
  unfold spec_machine_ways_1 at h
  refine IC.of_body Try.func97 rfl (by kernel_rfl) rfl (nt := 17) rfl (by decide) (by simp) ?_
  intro Γ Γx lp hΓ hΓx hY
  refine AW.seq ?_
  refine AW.ops ?_
  refine AO.allF tab_ok (by decide) [(1, .bp 1000 0), (2, .bp 2 0)] [(2, .box 103 [.fn (.yield lp) [] []]), (1000, .box 60 [.int .i64 a1.1, .int .i64 a1.2.1, .sl (.sl (.int .i64)) a1.2.2.1, .sl (.sl (.int .i64)) a1.2.2.2])] (by (simp only [go_sem]) <;> (repeat' with_reducible apply And.intro) <;> first | assumption | rfl | omega | (unfold maxLen; omega)) ?_
  refine athen_n ?_
  refine AW.seq ?_
  refine AW.ops ?_
  refine AO.segF tab_ok 3 (by decide) [(2, .bp 2 0), (5, .agg [.int .i64 a1.1, .int .i64 a1.2.1, .sl (.sl (.int .i64)) a1.2.2.1, .sl (.sl (.int .i64)) a1.2.2.2]), (6, .agg [.int .i64 a1.1, .int .i64 a1.2.1, .sl (.sl (.int .i64)) a1.2.2.1, .sl (.sl (.int .i64)) a1.2.2.2]), (7, .agg [.int .i64 0, .int .i64 0])] [(2, .box 103 [.fn (.yield lp) [] []]), (1000, .box 60 [.int .i64 a1.1, .int .i64 a1.2.1, .sl (.sl (.int .i64)) a1.2.2.1, .sl (.sl (.int .i64)) a1.2.2.2])] (by (simp only [go_sem]) <;> (repeat' with_reducible apply And.intro) <;> first | assumption | rfl | omega | (unfold maxLen; omega)) ?_
  obtain ⟨v0, hv1, h⟩ := Option.bind_eq_some_iff.1 h
  refine AO.call tab_ok (by decide) rfl rfl rfl (fun _ h => h) [] [] (hc_spec_walk a1 a1 (0, 0) hv1) rfl (by (simp only [go_sem]) <;> (repeat' with_reducible apply And.intro) <;> first | assumption | rfl | omega | (unfold maxLen; omega)) (by (simp only [go_sem]) <;> (repeat' with_reducible apply And.intro) <;> first | assumption | rfl | omega | (unfold maxLen; omega)) [(2, .bp 2 0), (8, .fn (.func 99) [] [.bp 18000 0, .bp 18001 0, .bp 18002 0])] [(2, .box 103 [.fn (.yield lp) [] []]), (1000, .box 60 [.int .i64 a1.1, .int .i64 a1.2.1, .sl (.sl (.int .i64)) a1.2.2.1, .sl (.sl (.int .i64)) a1.2.2.2]), (18000, .box 75 [.int .i64 0, .int .i64 0]), (18001, .box 60 [.int .i64 a1.1, .int .i64 a1.2.1, .sl (.sl (.int .i64)) a1.2.2.1, .sl (.sl (.int .i64)) a1.2.2.2]), (18002, .box 60 [.int .i64 a1.1, .int .i64 a1.2.1, .sl (.sl (.int .i64)) a1.2.2.1, .sl (.sl (.int .i64)) a1.2.2.2])] (by (simp only [go_sem]) <;> (repeat' with_reducible apply And.intro) <;> first | assumption | rfl | omega | (unfold maxLen; omega)) ?_
  refine AO.allF tab_ok (by decide) [(2, .bp 2 0), (8, .fn (.func 99) [] [.bp 18000 0, .bp 18001 0, .bp 18002 0])] [(2, .box 103 [.fn (.yield lp) [] []]), (1000, .box 60 [.int .i64 a1.1, .int .i64 a1.2.1, .sl (.sl (.int .i64)) a1.2.2.1, .sl (.sl (.int .i64)) a1.2.2.2]), (18000, .box 75 [.int .i64 0, .int .i64 0]), (18001, .box 60 [.int .i64 a1.1, .int .i64 a1.2.1, .sl (.sl (.int .i64)) a1.2.2.1, .sl (.sl (.int .i64)) a1.2.2.2]), (18002, .box 60 [.int .i64 a1.1, .int .i64 a1.2.1, .sl (.sl (.int .i64)) a1.2.2.1, .sl (.sl (.int .i64)) a1.2.2.2])] (by (simp only [go_sem]) <;> (repeat' with_reducible apply And.intro) <;> first | assumption | rfl | omega | (unfold maxLen; omega)) ?_
  refine athen_n ?_
  refine AW.block ?_
  obtain ⟨x2, hx3, h⟩ := Option.bind_eq_some_iff.1 h
  refine AW.weaken (s' := ⟨fr [(2, .bp 2 0), (8, .fn (.func 99) [] [.bp 18000 0, .bp 18001 0, .bp 18002 0])], hpGet ([(18000, .box 75 [.int .i64 0, .int .i64 0]), (18001, .box 60 [.int .i64 a1.1, .int .i64 a1.2.1, .sl (.sl (.int .i64)) a1.2.2.1, .sl (.sl (.int .i64)) a1.2.2.2]), (18002, .box 60 [.int .i64 a1.1, .int .i64 a1.2.1, .sl (.sl (.int .i64)) a1.2.2.1, .sl (.sl (.int .i64)) a1.2.2.2])] ++ [(2, .box 103 [.fn (.yield lp) [] []]), (1000, .box 60 [.int .i64 a1.1, .int .i64 a1.2.1, .sl (.sl (.int .i64)) a1.2.2.1, .sl (.sl (.int .i64)) a1.2.2.2])]), (Γ s0)⟩) (Wk.le [] [] [] rfl (by (simp only [go_sem]) <;> (repeat' with_reducible apply And.intro) <;> first | assumption | rfl | omega | (unfold maxLen; omega)) (by (simp only [go_sem]) <;> (repeat' with_reducible apply And.intro) <;> first | assumption | rfl | omega | (unfold maxLen; omega))) ?_
  refine AW.rangeF (R := R) (l0 := [(2, .bp 2 0)]) (hI := [(18000, .box 75 [.int .i64 0, .int .i64 0]), (18001, .box 60 [.int .i64 a1.1, .int .i64 a1.2.1, .sl (.sl (.int .i64)) a1.2.2.1, .sl (.sl (.int .i64)) a1.2.2.2]), (18002, .box 60 [.int .i64 a1.1, .int .i64 a1.2.1, .sl (.sl (.int .i64)) a1.2.2.1, .sl (.sl (.int .i64)) a1.2.2.2])]) (h0 := fun (st1 : S) => [(2, .box 103 [.fn (.yield lp) [] []]), (1000, .box 60 [.int .i64 a1.1, .int .i64 a1.2.1, .sl (.sl (.int .i64)) a1.2.2.1, .sl (.sl (.int .i64)) a1.2.2.2])]) (gg := fun (st1 : S) => (Γ st1)) (hx0 := (fun (r1 : R) => [(2, .box 103 [.fn (.yield lp) [] []]), (1000, .box 60 [.int .i64 a1.1, .int .i64 a1.2.1, .sl (.sl (.int .i64)) a1.2.2.1, .sl (.sl (.int .i64)) a1.2.2.2])])) (gx := (fun (r1 : R) => (Γx r1))) (ex := (fun (r1 : R) => Exit.ret)) s0 [(18000, 1000), (18001, 1001), (18002, 1002)] [(1000, 18000), (1001, 18001), (1002, 18002)] [(2, 1900)] [(1900, 2)] (by decide) rfl (by first | exact (ic_spec_walk_1 (0, 0) a1 a1 (spec_machine_ways_1_y1 S R yl) s0 hx3) | simpa only [go_sem] using (ic_spec_walk_1 (0, 0) a1 a1 (spec_machine_ways_1_y1 S R yl) s0 hx3)) (by (simp only [go_sem]) <;> (repeat' with_reducible apply And.intro) <;> first | assumption | rfl | omega | (unfold maxLen; omega)) rfl rfl rfl (fun _ => rfl) rfl (fun _ => rfl) rfl (fun _ => rfl) (fun _ => rfl) (fun _ => rfl) (fun _ => rfl) rfl (fun _ _ => by first | rfl | (exact (hΓ _).trans (hΓ _).symm) | (exact (hΓx _).trans (hΓ _).symm)) (fun _ _ => by first | rfl | (exact (hΓ _).trans (hΓ _).symm) | (exact (hΓx _).trans (hΓ _).symm)) ?_ ?_
  · intro lpy1 y1 st1 x4 h
    unfold spec_machine_ways_1_y1 at h
    refine AW.weaken (s' := ⟨fr [(2, .bp 1900 0), (9, .agg [.int .i64 y1.1.1, .int .i64 y1.1.2]), (10, .sl (.int .i64) y1.2)], hpGet [(1000, .box 60 [.int .i64 a1.1, .int .i64 a1.2.1, .sl (.sl (.int .i64)) a1.2.2.1, .sl (.sl (.int .i64)) a1.2.2.2]), (1900, .box 103 [.fn (.yield lp) [] []])], (Γ st1)⟩) (Wk.to (by (simp only [go_sem]) <;> (repeat' with_reducible apply And.intro) <;> first | assumption | rfl | omega | (unfold maxLen; omega))) ?_
    refine AW.seq ?_
    refine AW.ops ?_
    refine AO.allF tab_ok (by decide) [(2, .bp 1900 0), (3, .bp 3 0), (10, .sl (.int .i64) y1.2)] [(3, .box 75 [.int .i64 y1.1.1, .int .i64 y1.1.2]), (1000, .box 60 [.int .i64 a1.1, .int .i64 a1.2.1, .sl (.sl (.int .i64)) a1.2.2.1, .sl (.sl (.int .i64)) a1.2.2.2]), (1900, .box 103 [.fn (.yield lp) [] []])] (by (simp only [go_sem]) <;> (repeat' with_reducible apply And.intro) <;> first | assumption | rfl | omega | (unfold maxLen; omega)) ?_
    refine athen_n ?_
    refine AW.ops ?_
    refine AO.allF tab_ok (by decide) [(2, .bp 1900 0), (3, .bp 3 0), (4, .sl (.int .i64) y1.2)] [(3, .box 75 [.int .i64 y1.1.1, .int .i64 y1.1.2]), (1000, .box 60 [.int .i64 a1.1, .int .i64 a1.2.1, .sl (.sl (.int .i64)) a1.2.2.1, .sl (.sl (.int .i64)) a1.2.2.2]), (1900, .box 103 [.fn (.yield lp) [] []])] (by (simp only [go_sem]) <;> (repeat' with_reducible apply And.intro) <;> first | assumption | rfl | omega | (unfold maxLen; omega)) ?_
    refine And.intro rfl ?_
    refine AW.block ?_
    refine AW.seq ?_
    refine AW.ops ?_
    refine AO.segF tab_ok 4 (by decide) [(2, .bp 1900 0), (11, .fn (.yield lp) [] []), (13, .int .i64 y1.1.1), (14, .sl (.int .i64) y1.2)] [(1000, .box 60 [.int .i64 a1.1, .int .i64 a1.2.1, .sl (.sl (.int .i64)) a1.2.2.1, .sl (.sl (.int .i64)) a1.2.2.2]), (1900, .box 103 [.fn (.yield lp) [] []])] (by (simp only [go_sem]) <;> (repeat' with_reducible apply And.intro) <;> first | assumption | rfl | omega | (unfold maxLen; omega)) ?_
    obtain ⟨x5, hx6, h⟩ := Option.bind_eq_some_iff.1 h
    refine yield_op rfl rfl rfl (by decide) _ rfl hY hΓ hΓx (y1.1.1, y1.2) [] (by (simp only [go_sem]) <;> (repeat' with_reducible apply And.intro) <;> first | assumption | rfl | omega | (unfold maxLen; omega)) hx6 ?_
    cases x5 with
    | next s =>
      try simp only at h
      refine AO.weaken (s' := ⟨fr [(2, .bp 1900 0), (15, .bool true)], hpGet [(1000, .box 60 [.int .i64 a1.1, .int .i64 a1.2.1, .sl (.sl (.int .i64)) a1.2.2.1, .sl (.sl (.int .i64)) a1.2.2.2]), (1900, .box 103 [.fn (.yield lp) [] []])], (Γ s)⟩) (Wk.to (by (simp only [go_sem]) <;> (repeat' with_reducible apply And.intro) <;> first | assumption | rfl | omega | (unfold maxLen; omega))) ?_
      refine AO.allF tab_ok (by decide) [(2, .bp 1900 0), (16, .bool false)] [(1000, .box 60 [.int .i64 a1.1, .int .i64 a1.2.1, .sl (.sl (.int .i64)) a1.2.2.1, .sl (.sl (.int .i64)) a1.2.2.2]), (1900, .box 103 [.fn (.yield lp) [] []])] (by (simp only [go_sem]) <;> (repeat' with_reducible apply And.intro) <;> first | assumption | rfl | omega | (unfold maxLen; omega)) ?_
      refine athen_n ?_
      refine AW.cond (b := false) rfl (fun hb7 => by cases hb7) (fun _ => ?_)
      refine AW.skip ?_
      refine ablock_n ?_
      obtain rfl := Option.some.inj h
      exact rpost_next rfl [] [] [] rfl (by (simp only [go_sem]) <;> (repeat' with_reducible apply And.intro) <;> first | assumption | rfl | omega | (unfold maxLen; omega))
    | done e =>
      try simp only at h
      refine AO.weaken (s' := ⟨fr [(2, .bp 1900 0), (15, .bool false)], hpGet [(1000, .box 60 [.int .i64 a1.1, .int .i64 a1.2.1, .sl (.sl (.int .i64)) a1.2.2.1, .sl (.sl (.int .i64)) a1.2.2.2]), (1900, .box 103 [.fn (.yield lp) [] []])], (Γx e)⟩) (Wk.to (by (simp only [go_sem]) <;> (repeat' with_reducible apply And.intro) <;> first | assumption | rfl | omega | (unfold maxLen; omega))) ?_
      refine AO.allF tab_ok (by decide) [(2, .bp 1900 0), (16, .bool true)] [(1000, .box 60 [.int .i64 a1.1, .int .i64 a1.2.1, .sl (.sl (.int .i64)) a1.2.2.1, .sl (.sl (.int .i64)) a1.2.2.2]), (1900, .box 103 [.fn (.yield lp) [] []])] (by (simp only [go_sem]) <;> (repeat' with_reducible apply And.intro) <;> first | assumption | rfl | omega | (unfold maxLen; omega)) ?_
      refine athen_n ?_
      refine AW.cond (b := true) rfl (fun _ => ?_) (fun hb8 => by cases hb8)
      refine AW.ret ?_
      refine ablock_r ?_
      obtain rfl := Option.some.inj h
      exact rpost_ret rfl rfl [] [] [] rfl (by (simp only [go_sem]) <;> (repeat' with_reducible apply And.intro) <;> first | assumption | rfl | omega | (unfold maxLen; omega))
  · cases x2 with
    | inl st1_2 =>
      try simp only at h
      refine ablock_n ?_
      obtain rfl := Option.some.inj h
      exact rfl
    | inr r1 =>
      try simp only at h
      refine ablock_r ?_
      obtain rfl := Option.some.inj h
      exact rfl

set_option maxRecDepth 100000 in
set_option maxHeartbeats 2000000 in
theorem hc_cmp_isNaN (x0 : Int) {r : Unit} (h : cmp_isNaN x0 = some r) : HC Try.prog 118 [] [.int .i64 x0] [] (.bool false) := by
  unfold cmp_isNaN at h
  refine HC.of_body tab_ok (res := [.tmp 2]) Try.func118 rfl (by kernel_rfl) rfl (nt := 6) rfl (by decide) (by simp) ?_
  refine AW.seq ?_
  refine AW.ops ?_
  refine AO.allF tab_ok (by decide) [(0, .int .i64 x0)] [] (by (simp only [go_sem]) <;> (repeat' with_reducible apply And.intro) <;> first | assumption | rfl | omega | (unfold maxLen; omega)) ?_
  refine athen_n ?_
  refine AW.seq ?_
  refine AW.ops ?_
  refine AO.allF tab_ok (by decide) [(2, .bool false)] [] (by (simp only [go_sem]) <;> (repeat' with_reducible apply And.intro) <;> first | assumption | rfl | omega | (unfold maxLen; omega)) ?_
  refine athen_n ?_
  refine AW.ret ?_
  obtain rfl := Option.some.inj h
  exact ⟨rfl, [], [], [], rfl, (by (simp only [go_sem]) <;> (repeat' with_reducible apply And.intro) <;> first | assumption | rfl | omega | (unfold maxLen; omega))⟩

set_option maxRecDepth 100000 in
set_option maxHeartbeats 2000000 in
theorem hc_cmp_Less (x0 : Int) (y : Int) {r : Unit} (h : cmp_Less x0 y = some r) : HC Try.prog 108 [] [.int .i64 x0, .int .i64 y] [] (.bool (decide (x0 < y))) := by
  unfold cmp_Less at h
  refine HC.of_body tab_ok (res := [.tmp 4]) Try.func108 rfl (by kernel_rfl) rfl (nt := 17) rfl (by decide) (by simp) ?_
  refine AW.seq ?_
  refine AW.ops ?_
  refine AO.allF tab_ok (by decide) [(0, .int .i64 x0), (1, .int .i64 y)] [] (by (simp only [go_sem]) <;> (repeat' with_reducible apply And.intro) <;> first | assumption | rfl | omega | (unfold maxLen; omega)) ?_
  refine athen_n ?_
  refine AW.seq ?_
  refine AW.ops ?_
  refine AO.segF tab_ok 1 (by decide) [(0, .int .i64 x0), (1, .int .i64 y), (5, .int .i64 x0)] [] (by (simp only [go_sem]) <;> (repeat' with_reducible apply And.intro) <;> first | assumption | rfl | omega | (unfold maxLen; omega)) ?_
  obtain ⟨v0, hv1, h⟩ := Option.bind_eq_some_iff.1 h
  refine AO.call tab_ok (by decide) rfl rfl rfl (fun _ h => h) [] [] (hc_cmp_isNaN x0 hv1) rfl (by (simp only [go_sem]) <;> (repeat' with_reducible apply And.intro) <;> first | assumption | rfl | omega | (unfold maxLen; omega)) (by (simp only [go_sem]) <;> (repeat' with_reducible apply And.intro) <;> first | assumption | rfl | omega | (unfold maxLen; omega)) [(0, .int .i64 x0), (1, .int .i64 y), (6, .bool false)] [] (by (simp only [go_sem]) <;> (repeat' with_reducible apply And.intro) <;> first | assumption | rfl | omega | (unfold maxLen; omega)) ?_
  refine AO.allF tab_ok (by decide) [(4, .bool (decide (x0 < y)))] [] (by (simp only [go_sem]) <;> (repeat' with_reducible apply And.intro) <;> first | assumption | rfl | omega | (unfold maxLen; omega)) ?_
  refine athen_n ?_
  refine AW.ret ?_
  obtain rfl := Option.some.inj h
  exact ⟨rfl, [], [], [], rfl, (by (simp only [go_sem]) <;> (repeat' with_reducible apply And.intro) <;> first | assumption | rfl | omega | (unfold maxLen; omega))⟩

set_option maxRecDepth 100000 in
set_option maxHeartbeats 2000000 in
theorem hc_slices_insertionSortOrdered (a : Int) (b : Int) (data : List Int) {r : (List Int)} (h : slices_insertionSortOrdered a b data = some r) : HC Try.prog 102 [(1000, .arr 3 (.int .i64) data)] [.own 1000, .int .i64 a, .int .i64 b] [(1000, .arr 3 (.int .i64) r)] (.tup []) := by
  unfold slices_insertionSortOrdered at h
  refine HC.of_body tab_ok (res := []) Try.func102 rfl (by kernel_rfl) rfl (nt := 49) rfl (by decide) (by simp) ?_
  refine AW.seq ?_
  refine AW.ops ?_
  obtain ⟨c1, h⟩ := ck_some.1 h
  refine AO.allF tab_ok (by decide) [(0, .own 1000), (1, .int .i64 a), (2, .int .i64 b), (6, .int .i64 (a + 1))] [(1000, .arr 3 (.int .i64) data)] (by (simp only [go_sem]) <;> (repeat' with_reducible apply And.intro) <;> first | assumption | rfl | omega | (unfold maxLen; omega)) ?_
  refine athen_n ?_
  refine AW.block ?_
  obtain ⟨rv6, hw2, ho3⟩ := Option.bind_eq_some_iff.1 h
  refine AW.loopO (slices_insertionSortOrdered_b1 a b) (fun st1 => ⟨fr [(0, .own 1000), (1, .int .i64 a), (2, .int .i64 b), (6, .int .i64 st1.2)], hpGet [(1000, .arr 3 (.int .i64) st1.1)], gt⟩) (data, (a + 1)) hw2 (Wk.le [] [] [] rfl (by (simp only [go_sem]) <;> (repeat' with_reducible apply And.intro) <;> first | assumption | rfl | omega | (unfold maxLen; omega)) (by (simp only [go_sem]) <;> (repeat' with_reducible apply And.intro) <;> first | assumption | rfl | omega | (unfold maxLen; omega))) ?_
  intro st1 x5 h hd4
  unfold slices_insertionSortOrdered_b1 at h
  refine AW.seq ?_
  refine AW.seq ?_
  refine AW.ops ?_
  refine AO.allF tab_ok (by decide) [(0, .own 1000), (1, .int .i64 a), (2, .int .i64 b), (6, .int .i64 st1.2), (12, .bool (decide (st1.2 < b)))] [(1000, .arr 3 (.int .i64) st1.1)] (by (simp only [go_sem]) <;> (repeat' with_reducible apply And.intro) <;> first | assumption | rfl | omega | (unfold maxLen; omega)) ?_
  refine athen_n ?_
  refine AW.cond (b := (decide (st1.2 < b))) rfl (fun hb7 => ?_) (fun hb7 => ?_)
  · rw [if_pos hb7] at h
    refine AW.skip ?_
    refine athen_n ?_
    refine AW.have1 (fun b1 : (List Int) => slices_insertionSortOrdered_k1 st1 b1 = some x5) (fun b1 => ⟨fr [(0, .own 1000), (1, .int .i64 a), (2, .int .i64 b), (6, .int .i64 st1.2)], hpGet [(1000, .arr 3 (.int .i64) b1)], gt⟩) (fun b1 h => ?_) (fun hk_slices_insertionSortOrdered_k1 => ?_)
    · unfold slices_insertionSortOrdered_k1 at h
      refine AW.ops ?_
      obtain ⟨c8, h⟩ := ck_some.1 h
      refine AO.allF tab_ok (by decide) [(0, .own 1000), (1, .int .i64 a), (2, .int .i64 b), (6, .int .i64 (st1.2 + 1))] [(1000, .arr 3 (.int .i64) b1)] (by (simp only [go_sem, hb7]) <;> (repeat' with_reducible apply And.intro) <;> first | assumption | rfl | omega | (unfold maxLen; omega)) ?_
      obtain rfl := Option.some.inj h
      exact ⟨_, rfl, Wk.le [] [] [] rfl (by (simp only [go_sem, hb7]) <;> (repeat' with_reducible apply And.intro) <;> first | assumption | rfl | omega | (unfold maxLen; omega)) (by (simp only [go_sem, hb7]) <;> (repeat' with_reducible apply And.intro) <;> first | assumption | rfl | omega | (unfold maxLen; omega))⟩
    · refine AW.seq ?_
      refine AW.block ?_
      refine AW.seq ?_
      refine AW.ops ?_
      refine AO.allF tab_ok (by decide) [(0, .own 1000), (1, .int .i64 a), (2, .int .i64 b), (6, .int .i64 st1.2), (7, .int .i64 st1.2)] [(1000, .arr 3 (.int .i64) st1.1)] (by (simp only [go_sem, hb7]) <;> (repeat' with_reducible apply And.intro) <;> first | assumption | rfl | omega | (unfold maxLen; omega)) ?_
      refine athen_n ?_
      refine AW.block ?_
      obtain ⟨rv13, hw9, ho10⟩ := Option.bind_eq_some_iff.1 h
      refine AW.loopO (slices_insertionSortOrdered_b2 a) (fun st2 => ⟨fr [(0, .own 1000), (1, .int .i64 a), (2, .int .i64 b), (6, .int .i64 st1.2), (7, .int .i64 st2.2)], hpGet [(1000, .arr 3 (.int .i64) st2.1)], gt⟩) st1 hw9 (Wk.le [] [] [] rfl (by (simp only [go_sem, hb7]) <;> (repeat' with_reducible apply And.intro) <;> first | assumption | rfl | omega | (unfold maxLen; omega)) (by (simp only [go_sem, hb7]) <;> (repeat' with_reducible apply And.intro) <;> first | assumption | rfl | omega | (unfold maxLen; omega))) ?_
      intro st2 x12 h hd11
      unfold slices_insertionSortOrdered_b2 at h
      refine AW.seq ?_
      refine AW.seq ?_
      refine AW.draw tab_ok mixed_ok [] [] (by decide) (by kernel_rfl) ?_
      refine adops_cut 4 (fun K' hK14 => ?_)
      try dsimp only [List.drop_succ_cons, List.drop_zero, List.take_succ_cons, List.take_zero]
      simp only [go_sem, hb7]
      repeat (with_reducible refine And.intro (by first | assumption | rfl | omega | trivial | (unfold maxLen; omega)) ?_)
      refine hK14 _ ?_
      rcases Bool.eq_false_or_eq_true (decide (a < st2.2)) with hb15 | hb15
      · rw [if_pos hb15] at h
        simp only [hb15]
        obtain ⟨c17, h⟩ := ck_some.1 h
        obtain ⟨c18, h⟩ := ck_some.1 h
        refine adops_cut 6 (fun K' hK16 => ?_)
        try dsimp only [List.drop_succ_cons, List.drop_zero, List.take_succ_cons, List.take_zero]
        simp only [go_sem, hb7, hb15]
        repeat (with_reducible refine And.intro (by first | assumption | rfl | omega | trivial | (unfold maxLen; omega)) ?_)
        refine hK16 _ ?_
        obtain ⟨c20, h⟩ := ck_some.1 h
        obtain ⟨c21, h⟩ := ck_some.1 h
        obtain ⟨c22, h⟩ := ck_some.1 h
        refine adops_cut 3 (fun K' hK19 => ?_)
        try dsimp only [List.drop_succ_cons, List.drop_zero, List.take_succ_cons, List.take_zero]
        simp only [go_sem, hb7, hb15]
        repeat (with_reducible refine And.intro (by first | assumption | rfl | omega | trivial | (unfold maxLen; omega)) ?_)
        refine hK19 _ ?_
        obtain ⟨v0, hv23, h⟩ := Option.bind_eq_some_iff.1 h
        refine adops.call (by first | trivial | rfl) rfl rfl rfl (fun _ h => ⟨fun _ => h, fun hn => absurd rfl hn⟩) [] [] (hc_cmp_Less (st2.1.getD st2.2.toNat 0) (st2.1.getD (st2.2 - 1).toNat 0) hv23) rfl (by (simp only [go_sem, hb7, hb15]) <;> (repeat' with_reducible apply And.intro) <;> first | assumption | rfl | omega | (unfold maxLen; omega)) (by (simp only [go_sem, hb7, hb15]) <;> (repeat' with_reducible apply And.intro) <;> first | assumption | rfl | omega | (unfold maxLen; omega)) rfl ?_
        refine adops_cut 1 (fun K' hK24 => ?_)
        try dsimp only [List.drop_succ_cons, List.drop_zero, List.take_succ_cons, List.take_zero]
        simp only [go_sem, hb7, hb15]
        repeat (with_reducible refine And.intro (by first | assumption | rfl | omega | trivial | (unfold maxLen; omega)) ?_)
        refine hK24 _ ?_
        refine adops_nil ?_
        refine athen_n ?_
        refine AW.weaken (s' := ⟨fr [(0, .own 1000), (1, .int .i64 a), (2, .int .i64 b), (6, .int .i64 st1.2), (7, .int .i64 st2.2), (30, .bool (decide ((st2.1.getD st2.2.toNat 0) < (st2.1.getD (st2.2 - 1).toNat 0))))], hpGet [(1000, .arr 3 (.int .i64) st2.1)], gt⟩) (Wk.to (by (simp only [go_sem, hb7, hb15]) <;> (repeat' with_reducible apply And.intro) <;> first | assumption | rfl | omega | (unfold maxLen; omega))) ?_
        refine AW.cond (b := (decide ((st2.1.getD st2.2.toNat 0) < (st2.1.getD (st2.2 - 1).toNat 0)))) rfl (fun hb25 => ?_) (fun hb25 => ?_)
        · rw [if_pos hb25] at h
          refine AW.skip ?_
          refine athen_n ?_
          refine AW.seq ?_
          refine AW.block ?_
          refine AW.draw tab_ok mixed_ok [(15, [1000]), (17, [1000])] [(2, [1000]), (3, []), (4, []), (100015, []), (100017, [])] (by decide) (by kernel_rfl) ?_
          obtain ⟨c27, h⟩ := ck_some.1 h
          refine adops_cut 6 (fun K' hK26 => ?_)
          try dsimp only [List.drop_succ_cons, List.drop_zero, List.take_succ_cons, List.take_zero]
          simp only [go_sem, hb7, hb15, hb25]
          repeat (with_reducible refine And.intro (by first | assumption | rfl | omega | trivial | (unfold maxLen; omega)) ?_)
          refine hK26 _ ?_
          obtain ⟨c29, h⟩ := ck_some.1 h
          obtain ⟨c30, h⟩ := ck_some.1 h
          obtain ⟨c31, h⟩ := ck_some.1 h
          refine adops_cut 6 (fun K' hK28 => ?_)
          try dsimp only [List.drop_succ_cons, List.drop_zero, List.take_succ_cons, List.take_zero]
          simp only [go_sem, hb7, hb15, hb25]
          repeat (with_reducible refine And.intro (by first | assumption | rfl | omega | trivial | (unfold maxLen; omega)) ?_)
          refine hK28 _ ?_
          obtain ⟨c33, h⟩ := ck_some.1 h
          obtain ⟨c34, h⟩ := ck_some.1 h
          obtain ⟨c35, h⟩ := ck_some.1 h
          obtain ⟨c36, h⟩ := ck_some.1 h
          obtain ⟨c37, h⟩ := ck_some.1 h
          obtain ⟨c38, h⟩ := ck_some.1 h
          refine adops_cut 6 (fun K' hK32 => ?_)
          try dsimp only [List.drop_succ_cons, List.drop_zero, List.take_succ_cons, List.take_zero]
          simp only [go_sem, hb7, hb15, hb25]
          repeat (with_reducible refine And.intro (by first | assumption | rfl | omega | trivial | (unfold maxLen; omega)) ?_)
          refine hK32 _ ?_
          refine adops_nil ?_
          refine ablock_n ?_
          refine athen_n ?_
          refine AW.weaken (s' := ⟨fr [(0, .own 1000), (1, .int .i64 a), (2, .int .i64 b), (6, .int .i64 st1.2), (7, .int .i64 st2.2)], hpGet [(1000, .arr 3 (.int .i64) ((st2.1.set st2.2.toNat (st2.1.getD (st2.2 - 1).toNat 0)).set (st2.2 - 1).toNat (st2.1.getD st2.2.toNat 0)))], gt⟩) (Wk.to (by (simp only [go_sem, hb7, hb15, hb25]) <;> (repeat' with_reducible apply And.intro) <;> first | assumption | rfl | omega | (unfold maxLen; omega))) ?_
          refine AW.ops ?_
          obtain ⟨c39, h⟩ := ck_some.1 h
          refine AO.allF tab_ok (by decide) [(0, .own 1000), (1, .int .i64 a), (2, .int .i64 b), (6, .int .i64 st1.2), (7, .int .i64 (st2.2 - 1))] [(1000, .arr 3 (.int .i64) ((st2.1.set st2.2.toNat (st2.1.getD (st2.2 - 1).toNat 0)).set (st2.2 - 1).toNat (st2.1.getD st2.2.toNat 0)))] (by (simp only [go_sem, hb7, hb15, hb25]) <;> (repeat' with_reducible apply And.intro) <;> first | assumption | rfl | omega | (unfold maxLen; omega)) ?_
          obtain rfl := Option.some.inj h
          exact ⟨_, rfl, Wk.le [] [] [] rfl (by (simp only [go_sem, hb7, hb15, hb25]) <;> (repeat' with_reducible apply And.intro) <;> first | assumption | rfl | omega | (unfold maxLen; omega)) (by (simp only [go_sem, hb7, hb15, hb25]) <;> (repeat' with_reducible apply And.intro) <;> first | assumption | rfl | omega | (unfold maxLen; omega))⟩
        · rw [if_neg (Bool.eq_false_iff.1 hb25)] at h
          refine AW.exit ?_
          refine athen_e ?_
          obtain rfl := Option.some.inj h
          rw [← hd11 _ rfl] at ho10
          have h := ho10
          refine athen_e ?_
          refine ablock_s ?_
          refine ablock_n ?_
          refine athen_n ?_
          exact AW.weaken (Wk.le [] [] [] rfl (by (simp only [go_sem, hb7, hb15, hb25]) <;> (repeat' with_reducible apply And.intro) <;> first | assumption | rfl | omega | (unfold maxLen; omega)) (by (simp only [go_sem, hb7, hb15, hb25]) <;> (repeat' with_reducible apply And.intro) <;> first | assumption | rfl | omega | (unfold maxLen; omega))) (hk_slices_insertionSortOrdered_k1 _ h)
      · rw [if_neg (Bool.eq_false_iff.1 hb15)] at h
        simp only [hb15]
        refine adops_cut 4 (fun K' hK40 => ?_)
        try dsimp only [List.drop_succ_cons, List.drop_zero, List.take_succ_cons, List.take_zero]
        simp only [go_sem, hb7, hb15]
        repeat (with_reducible refine And.intro (by first | assumption | rfl | omega | trivial | (unfold maxLen; omega)) ?_)
        refine hK40 _ ?_
        refine adops_cut 4 (fun K' hK41 => ?_)
        try dsimp only [List.drop_succ_cons, List.drop_zero, List.take_succ_cons, List.take_zero]
        simp only [go_sem, hb7, hb15]
        repeat (with_reducible refine And.intro (by first | assumption | rfl | omega | trivial | (unfold maxLen; omega)) ?_)
        refine hK41 _ ?_
        refine adops_cut 3 (fun K' hK42 => ?_)
        try dsimp only [List.drop_succ_cons, List.drop_zero, List.take_succ_cons, List.take_zero]
        simp only [go_sem, hb7, hb15]
        repeat (with_reducible refine And.intro (by first | assumption | rfl | omega | trivial | (unfold maxLen; omega)) ?_)
        refine hK42 _ ?_
        refine adops_nil ?_
        refine athen_n ?_
        refine AW.weaken (s' := ⟨fr [(0, .own 1000), (1, .int .i64 a), (2, .int .i64 b), (6, .int .i64 st1.2), (7, .int .i64 st2.2), (30, .bool false)], hpGet [(1000, .arr 3 (.int .i64) st2.1)], gt⟩) (Wk.to (by (simp only [go_sem, hb7, hb15]) <;> (repeat' with_reducible apply And.intro) <;> first | assumption | rfl | omega | (unfold maxLen; omega))) ?_
        refine AW.cond (b := false) rfl (fun hb43 => by cases hb43) (fun _ => ?_)
        refine AW.exit ?_
        refine athen_e ?_
        obtain rfl := Option.some.inj h
        rw [← hd11 _ rfl] at ho10
        have h := ho10
        refine athen_e ?_
        refine ablock_s ?_
        refine ablock_n ?_
        refine athen_n ?_
        exact AW.weaken (Wk.le [] [] [] rfl (by (simp only [go_sem, hb7, hb15]) <;> (repeat' with_reducible apply And.intro) <;> first | assumption | rfl | omega | (unfold maxLen; omega)) (by (simp only [go_sem, hb7, hb15]) <;> (repeat' with_reducible apply And.intro) <;> first | assumption | rfl | omega | (unfold maxLen; omega))) (hk_slices_insertionSortOrdered_k1 _ h)
  · rw [if_neg (Bool.eq_false_iff.1 hb7)] at h
    refine AW.exit ?_
    refine athen_e ?_
    obtain rfl := Option.some.inj h
    rw [← hd4 _ rfl] at ho3
    have h := ho3
    refine athen_e ?_
    refine ablock_s ?_
    obtain rfl := Option.some.inj h
    exact ⟨rfl, [], [], [], rfl, (by (simp only [go_sem, hb7]) <;> (repeat' with_reducible apply And.intro) <;> first | assumption | rfl | omega | (unfold maxLen; omega))⟩

set_option maxRecDepth 100000 in
set_option maxHeartbeats 2000000 in
theorem hc_slices_pdqsortOrdered (a : Int) (b : Int) (limit : Int) (data : List Int) {r : (List Int)} (h : slices_pdqsortOrdered a b limit data = some r) : HC Try.prog 100 [(1000, .arr 3 (.int .i64) data)] [.own 1000, .int .i64 a, .int .i64 b, .int .i64 limit] [(1000, .arr 3 (.int .i64) r)] (.tup []) := by
  unfold slices_pdqsortOrdered at h
  refine HC.of_body tab_ok (res := []) Try.func100 rfl (by kernel_rfl) rfl (nt := 134) rfl (by decide) (by simp) ?_
  refine AW.seq ?_
  refine AW.ops ?_
  refine AO.allF tab_ok (by decide) [(0, .own 1000), (1, .int .i64 a), (2, .int .i64 b), (3, .int .i64 limit), (8, .bool true)] [(1000, .arr 3 (.int .i64) data)] (by (simp only [go_sem]) <;> (repeat' with_reducible apply And.intro) <;> first | assumption | rfl | omega | (unfold maxLen; omega)) ?_
  refine athen_n ?_
  refine AW.seq ?_
  refine AW.ops ?_
  refine AO.allF tab_ok (by decide) [(0, .own 1000), (1, .int .i64 a), (2, .int .i64 b), (3, .int .i64 limit), (8, .bool true), (9, .bool true)] [(1000, .arr 3 (.int .i64) data)] (by (simp only [go_sem]) <;> (repeat' with_reducible apply And.intro) <;> first | assumption | rfl | omega | (unfold maxLen; omega)) ?_
  refine athen_n ?_
  refine AW.block ?_
  obtain ⟨rv5, hw1, ho2⟩ := Option.bind_eq_some_iff.1 h
  refine AW.loopO (slices_pdqsortOrdered_b1 a b limit data) (fun st1 => ⟨fr [(0, .own 1000), (1, .int .i64 a), (2, .int .i64 b), (3, .int .i64 limit), (8, .bool true), (9, .bool true)], hpGet [(1000, .arr 3 (.int .i64) data)], gt⟩) () hw1 (Wk.le [] [] [] rfl (by (simp only [go_sem]) <;> (repeat' with_reducible apply And.intro) <;> first | assumption | rfl | omega | (unfold maxLen; omega)) (by (simp only [go_sem]) <;> (repeat' with_reducible apply And.intro) <;> first | assumption | rfl | omega | (unfold maxLen; omega))) ?_
  intro st1 x4 h hd3
  unfold slices_pdqsortOrdered_b1 at h
  refine AW.block ?_
  refine AW.seq ?_
  refine AW.ops ?_
  obtain ⟨c6, h⟩ := ck_some.1 h
  refine AO.allF tab_ok (by decide) [(0, .own 1000), (1, .int .i64 a), (2, .int .i64 b), (3, .int .i64 limit), (8, .bool true), (9, .bool true), (10, .int .i64 (b - a))] [(1000, .arr 3 (.int .i64) data)] (by (simp only [go_sem]) <;> (repeat' with_reducible apply And.intro) <;> first | assumption | rfl | omega | (unfold maxLen; omega)) ?_
  refine athen_n ?_
  refine AW.seq ?_
  refine AW.seq ?_
  refine AW.ops ?_
  refine AO.allF tab_ok (by decide) [(0, .own 1000), (1, .int .i64 a), (2, .int .i64 b), (3, .int .i64 limit), (8, .bool true), (9, .bool true), (10, .int .i64 (b - a)), (23, .bool (decide ((b - a) ≤ 12)))] [(1000, .arr 3 (.int .i64) data)] (by (simp only [go_sem]) <;> (repeat' with_reducible apply And.intro) <;> first | assumption | rfl | omega | (unfold maxLen; omega)) ?_
  refine athen_n ?_
  refine AW.cond (b := (decide ((b - a) ≤ 12))) rfl (fun hb7 => ?_) (fun hb7 => ?_)
  · rw [if_pos hb7] at h
    refine AW.seq ?_
    refine AW.ops ?_
    refine AO.segF tab_ok 3 (by decide) [(24, .own 1000), (25, .int .i64 a), (26, .int .i64 b)] [(1000, .arr 3 (.int .i64) data)] (by (simp only [go_sem, hb7]) <;> (repeat' with_reducible apply And.intro) <;> first | assumption | rfl | omega | (unfold maxLen; omega)) ?_
    obtain ⟨v0, hv8, h⟩ := Option.bind_eq_some_iff.1 h
    refine AO.call tab_ok (by decide) rfl rfl rfl (fun _ h => h) [] [(1000, 1000)] (hc_slices_insertionSortOrdered a b data hv8) rfl (by (simp only [go_sem, hb7]) <;> (repeat' with_reducible apply And.intro) <;> first | assumption | rfl | omega | (unfold maxLen; omega)) (by (simp only [go_sem, hb7]) <;> (repeat' with_reducible apply And.intro) <;> first | assumption | rfl | omega | (unfold maxLen; omega)) [] [(1000, .arr 3 (.int .i64) v0)] (by (simp only [go_sem, hb7]) <;> (repeat' with_reducible apply And.intro) <;> first | assumption | rfl | omega | (unfold maxLen; omega)) ?_
    refine AO.allF tab_ok (by decide) [] [(1000, .arr 3 (.int .i64) v0)] (by (simp only [go_sem, hb7]) <;> (repeat' with_reducible apply And.intro) <;> first | assumption | rfl | omega | (unfold maxLen; omega)) ?_
    refine athen_n ?_
    refine AW.ret ?_
    refine athen_r ?_
    refine ablock_r ?_
    obtain rfl := Option.some.inj h
    rw [← hd3 _ rfl] at ho2
    have h := ho2
    refine athen_r ?_
    refine ablock_r ?_
    obtain rfl := Option.some.inj h
    exact ⟨rfl, [], [], [], rfl, (by (simp only [go_sem, hb7]) <;> (repeat' with_reducible apply And.intro) <;> first | assumption | rfl | omega | (unfold maxLen; omega))⟩
  · rw [if_neg (Bool.eq_false_iff.1 hb7)] at h
    refine AW.skip ?_
    refine athen_n ?_
    refine AW.seq ?_
    refine AW.seq ?_
    refine AW.ops ?_
    refine AO.allF tab_ok (by decide) [(0, .own 1000), (1, .int .i64 a), (2, .int .i64 b), (3, .int .i64 limit), (8, .bool true), (9, .bool true), (10, .int .i64 (b - a)), (29, .bool (decide (limit = 0)))] [(1000, .arr 3 (.int .i64) data)] (by (simp only [go_sem, hb7]) <;> (repeat' with_reducible apply And.intro) <;> first | assumption | rfl | omega | (unfold maxLen; omega)) ?_
    refine athen_n ?_
    refine AW.cond (b := (decide (limit = 0))) rfl (fun hb9 => ?_) (fun hb9 => ?_)
    · rw [if_pos hb9] at h
      refine AW.seq ?_
      refine AW.ops ?_
      cases h
    · rw [if_neg (Bool.eq_false_iff.1 hb9)] at h
      refine AW.skip ?_
      refine athen_n ?_
      refine AW.seq ?_
      refine AW.seq ?_
      refine AW.ops ?_
      refine AO.allF tab_ok (by decide) [(0, .own 1000), (1, .int .i64 a), (2, .int .i64 b), (3, .int .i64 limit), (8, .bool true), (9, .bool true), (10, .int .i64 (b - a)), (35, .bool false)] [(1000, .arr 3 (.int .i64) data)] (by (simp only [go_sem, hb7, hb9]) <;> (repeat' with_reducible apply And.intro) <;> first | assumption | rfl | omega | (unfold maxLen; omega)) ?_
      refine athen_n ?_
      refine AW.cond (b := false) rfl (fun hb10 => by cases hb10) (fun _ => ?_)
      refine AW.skip ?_
      refine athen_n ?_
      refine AW.seq ?_
      refine AW.ops ?_
      cases h

set_option maxRecDepth 100000 in
set_option maxHeartbeats 2000000 in
theorem hc_slices_Sort (x0 : List Int) {r : (List Int)} (h : slices_Sort x0 = some r) : HC Try.prog 96 [(1000, .arr 3 (.int .i64) x0)] [.own 1000] [(1000, .arr 3 (.int .i64) r)] (.tup []) := by
  unfold slices_Sort at h
  refine HC.of_body tab_ok (res := []) Try.func96 rfl (by kernel_rfl) rfl (nt := 11) rfl (by decide) (by simp) ?_
  refine AW.seq ?_
  refine AW.ops ?_
  refine AO.allF tab_ok (by decide) [(0, .own 1000), (2, .int .i64 (x0.length : Int))] [(1000, .arr 3 (.int .i64) x0)] (by (simp only [go_sem]) <;> (repeat' with_reducible apply And.intro) <;> first | assumption | rfl | omega | (unfold maxLen; omega)) ?_
  refine athen_n ?_
  refine AW.ops ?_
  obtain ⟨c1, h⟩ := ck_some.1 h
  refine AO.segF tab_ok 4 (by decide) [(5, .own 1000), (6, .int .i64 (x0.length : Int)), (8, .int .u64 (x0.length : Int))] [(1000, .arr 3 (.int .i64) x0)] (by (simp only [go_sem]) <;> (repeat' with_reducible apply And.intro) <;> first | assumption | rfl | omega | (unfold maxLen; omega)) ?_
  obtain ⟨v0, hv2, h⟩ := Option.bind_eq_some_iff.1 h
  refine AO.call tab_ok (by decide) rfl rfl rfl (fun _ h => h) [] [] (hc_math_bits_Len (x0.length : Int) hv2) rfl (by (simp only [go_sem]) <;> (repeat' with_reducible apply And.intro) <;> first | assumption | rfl | omega | (unfold maxLen; omega)) (by (simp only [go_sem]) <;> (repeat' with_reducible apply And.intro) <;> first | assumption | rfl | omega | (unfold maxLen; omega)) [(5, .own 1000), (6, .int .i64 (x0.length : Int)), (9, .int .i64 v0)] [(1000, .arr 3 (.int .i64) x0)] (by (simp only [go_sem]) <;> (repeat' with_reducible apply And.intro) <;> first | assumption | rfl | omega | (unfold maxLen; omega)) ?_
  obtain ⟨v0_2, hv3, h⟩ := Option.bind_eq_some_iff.1 h
  refine AO.call tab_ok (by decide) rfl rfl rfl (fun _ h => h) [] [(1000, 1000)] (hc_slices_pdqsortOrdered 0 (x0.length : Int) v0 x0 hv3) rfl (by (simp only [go_sem]) <;> (repeat' with_reducible apply And.intro) <;> first | assumption | rfl | omega | (unfold maxLen; omega)) (by (simp only [go_sem]) <;> (repeat' with_reducible apply And.intro) <;> first | assumption | rfl | omega | (unfold maxLen; omega)) [] [(1000, .arr 3 (.int .i64) v0_2)] (by (simp only [go_sem]) <;> (repeat' with_reducible apply And.intro) <;> first | assumption | rfl | omega | (unfold maxLen; omega)) ?_
  refine AO.allF tab_ok (by decide) [] [(1000, .arr 3 (.int .i64) v0_2)] (by (simp only [go_sem]) <;> (repeat' with_reducible apply And.intro) <;> first | assumption | rfl | omega | (unfold maxLen; omega)) ?_
  obtain rfl := Option.some.inj h
  exact ⟨rfl, [], [], [], rfl, (by (simp only [go_sem]) <;> (repeat' with_reducible apply And.intro) <;> first | assumption | rfl | omega | (unfold maxLen; omega))⟩

set_option maxRecDepth 100000 in
set_option maxHeartbeats 2000000 in
theorem hc_spec_machine_reached (m : Int × Int × (List (List Int)) × (List (List Int))) {r : (List Int)} (h : spec_machine_reached m = some r) : HC Try.prog 72 [] [.agg [.int .i64 m.1, .int .i64 m.2.1, .sl (.sl (.int .i64)) m.2.2.1, .sl (.sl (.int .i64)) m.2.2.2]] [(2000, .arr 3 (.int .i64) r)] (.own 2000) := by
  unfold spec_machine_reached at h
  refine HC.of_body tab_ok (res := [.tmp 2]) Try.func72 rfl (by kernel_rfl) rfl (nt := 16) rfl (by decide) (by simp) ?_
  refine AW.seq ?_
  refine AW.ops ?_
  refine AO.allF tab_ok (by decide) [(1, .bp 1 0)] [(1, .box 60 [.int .i64 m.1, .int .i64 m.2.1, .sl (.sl (.int .i64)) m.2.2.1, .sl (.sl (.int .i64)) m.2.2.2])] (by (simp only [go_sem]) <;> (repeat' with_reducible apply And.intro) <;> first | assumption | rfl | omega | (unfold maxLen; omega)) ?_
  refine athen_n ?_
  refine AW.seq ?_
  refine AW.ops ?_
  refine AO.allF tab_ok (by decide) [(1, .bp 1 0), (3, .bp 3 0)] [(1, .box 60 [.int .i64 m.1, .int .i64 m.2.1, .sl (.sl (.int .i64)) m.2.2.1, .sl (.sl (.int .i64)) m.2.2.2]), (3, .box 25 [.cv (.slice none 0 0)])] (by (simp only [go_sem]) <;> (repeat' with_reducible apply And.intro) <;> first | assumption | rfl | omega | (unfold maxLen; omega)) ?_
  refine athen_n ?_
  refine AW.have1 (fun b1 : (List Int) => spec_machine_reached_k1 b1 = some r) (fun b1 => ⟨fr [(3, .bp 3 0)], hpGet [(3, .box 25 [.own 12]), (12, .arr 3 (.int .i64) b1)], gt⟩) (fun b1 h => ?_) (fun hk_spec_machine_reached_k1 => ?_)
  · unfold spec_machine_reached_k1 at h
    refine AW.seq ?_
    refine AW.ops ?_
    refine AO.segF tab_ok 1 (by decide) [(3, .bp 3 0), (13, .own 12)] [(3, .box 25 [.own 12]), (12, .arr 3 (.int .i64) b1)] (by (simp only [go_sem]) <;> (repeat' with_reducible apply And.intro) <;> first | assumption | rfl | omega | (unfold maxLen; omega)) ?_
    obtain ⟨v0_2, hv1, h⟩ := Option.bind_eq_some_iff.1 h
    refine AO.call tab_ok (by decide) rfl rfl rfl (fun _ h => h) [] [(1000, 12)] (hc_slices_Sort b1 hv1) rfl (by (simp only [go_sem]) <;> (repeat' with_reducible apply And.intro) <;> first | assumption | rfl | omega | (unfold maxLen; omega)) (by (simp only [go_sem]) <;> (repeat' with_reducible apply And.intro) <;> first | assumption | rfl | omega | (unfold maxLen; omega)) [(3, .bp 3 0)] [(3, .box 25 [.own 12]), (12, .arr 3 (.int .i64) v0_2)] (by (simp only [go_sem]) <;> (repeat' with_reducible apply And.intro) <;> first | assumption | rfl | omega | (unfold maxLen; omega)) ?_
    refine AO.allF tab_ok (by decide) [(3, .bp 3 0)] [(3, .box 25 [.own 12]), (12, .arr 3 (.int .i64) v0_2)] (by (simp only [go_sem]) <;> (repeat' with_reducible apply And.intro) <;> first | assumption | rfl | omega | (unfold maxLen; omega)) ?_
    refine athen_n ?_
    refine AW.seq ?_
    refine AW.ops ?_
    refine AO.allF tab_ok (by decide) [(2, .own 12)] [(12, .arr 3 (.int .i64) v0_2)] (by (simp only [go_sem]) <;> (repeat' with_reducible apply And.intro) <;> first | assumption | rfl | omega | (unfold maxLen; omega)) ?_
    refine athen_n ?_
    refine AW.ret ?_
    obtain rfl := Option.some.inj h
    exact ⟨rfl, [], [], [(2000, 12)], rfl, (by (simp only [go_sem]) <;> (repeat' with_reducible apply And.intro) <;> first | assumption | rfl | omega | (unfold maxLen; omega))⟩
  · refine AW.seq ?_
    refine AW.seq ?_
    refine AW.ops ?_
    refine AO.segF tab_ok 1 (by decide) [(3, .bp 3 0), (5, .agg [.int .i64 m.1, .int .i64 m.2.1, .sl (.sl (.int .i64)) m.2.2.1, .sl (.sl (.int .i64)) m.2.2.2])] [(3, .box 25 [.cv (.slice none 0 0)])] (by (simp only [go_sem]) <;> (repeat' with_reducible apply And.intro) <;> first | assumption | rfl | omega | (unfold maxLen; omega)) ?_
    obtain ⟨v0, hv2, h⟩ := Option.bind_eq_some_iff.1 h
    refine AO.call tab_ok (by decide) rfl rfl rfl (fun _ h => h) [] [] (hc_spec_machine_ways m hv2) rfl (by (simp only [go_sem]) <;> (repeat' with_reducible apply And.intro) <;> first | assumption | rfl | omega | (unfold maxLen; omega)) (by (simp only [go_sem]) <;> (repeat' with_reducible apply And.intro) <;> first | assumption | rfl | omega | (unfold maxLen; omega)) [(3, .bp 3 0), (6, .fn (.func 97) [] [.bp 16000 0])] [(3, .box 25 [.cv (.slice none 0 0)]), (16000, .box 60 [.int .i64 m.1, .int .i64 m.2.1, .sl (.sl (.int .i64)) m.2.2.1, .sl (.sl (.int .i64)) m.2.2.2])] (by (simp only [go_sem]) <;> (repeat' with_reducible apply And.intro) <;> first | assumption | rfl | omega | (unfold maxLen; omega)) ?_
    refine AO.allF tab_ok (by decide) [(3, .bp 3 0), (6, .fn (.func 97) [] [.bp 16000 0])] [(3, .box 25 [.cv (.slice none 0 0)]), (16000, .box 60 [.int .i64 m.1, .int .i64 m.2.1, .sl (.sl (.int .i64)) m.2.2.1, .sl (.sl (.int .i64)) m.2.2.2])] (by (simp only [go_sem]) <;> (repeat' with_reducible apply And.intro) <;> first | assumption | rfl | omega | (unfold maxLen; omega)) ?_
    refine athen_n ?_
    refine AW.block ?_
    obtain ⟨x3, hx4, h⟩ := Option.bind_eq_some_iff.1 h
    refine AW.weaken (s' := ⟨fr [(3, .bp 3 0), (6, .fn (.func 97) [] [.bp 16000 0])], hpGet ([(16000, .box 60 [.int .i64 m.1, .int .i64 m.2.1, .sl (.sl (.int .i64)) m.2.2.1, .sl (.sl (.int .i64)) m.2.2.2])] ++ [(3, .box 25 [.own 12]), (12, .arr 3 (.int .i64) [])]), gt⟩) (Wk.le [] [12] [] rfl (by (simp only [go_sem]) <;> (repeat' with_reducible apply And.intro) <;> first | assumption | rfl | omega | (unfold maxLen; omega)) (by (simp only [go_sem]) <;> (repeat' with_reducible apply And.intro) <;> first | assumption | rfl | omega | (unfold maxLen; omega))) ?_
    refine AW.rangeF (R := Empty) (l0 := [(3, .bp 3 0)]) (hI := [(16000, .box 60 [.int .i64 m.1, .int .i64 m.2.1, .sl (.sl (.int .i64)) m.2.2.1, .sl (.sl (.int .i64)) m.2.2.2])]) (h0 := fun (st1 : (List Int)) => [(3, .box 25 [.own 12]), (12, .arr 3 (.int .i64) st1)]) (gg := fun (st1 : (List Int)) => gt) (hx0 := (fun (r : Empty) => r.elim)) (gx := (fun (r : Empty) => r.elim)) (ex := (fun (r : Empty) => r.elim)) [] [(16000, 1000)] [(1000, 16000)] [(3, 1900)] [(1900, 3)] (by decide) rfl (by first | exact (ic_spec_machine_ways_1 m (spec_machine_reached_y1) [] hx4) | simpa only [go_sem] using (ic_spec_machine_ways_1 m (spec_machine_reached_y1) [] hx4)) (by (simp only [go_sem]) <;> (repeat' with_reducible apply And.intro) <;> first | assumption | rfl | omega | (unfold maxLen; omega)) rfl rfl rfl (fun _ => rfl) rfl (fun r => r.elim) rfl (fun r => r.elim) (fun r => r.elim) (fun _ => rfl) (fun _ => rfl) rfl (fun _ _ => by first | rfl | (exact (hΓ _).trans (hΓ _).symm) | (exact (hΓx _).trans (hΓ _).symm)) (fun _ r => r.elim) ?_ ?_
    · intro lpy1 y1 st1 x5 h
      unfold spec_machine_reached_y1 at h
      refine AW.weaken (s' := ⟨fr [(3, .bp 1900 0), (7, .int .i64 y1.1), (8, .sl (.int .i64) y1.2)], hpGet [(12, .arr 3 (.int .i64) st1), (1900, .box 25 [.own 12])], gt⟩) (Wk.to (by (simp only [go_sem]) <;> (repeat' with_reducible apply And.intro) <;> first | assumption | rfl | omega | (unfold maxLen; omega))) ?_
      refine AW.ops ?_
      refine AO.allF tab_ok (by decide) [(3, .bp 1900 0), (4, .int .i64 y1.1)] [(12, .arr 3 (.int .i64) st1), (1900, .box 25 [.own 12])] (by (simp only [go_sem]) <;> (repeat' with_reducible apply And.intro) <;> first | assumption | rfl | omega | (unfold maxLen; omega)) ?_
      refine And.intro rfl ?_
      refine AW.block ?_
      refine AW.ops ?_
      obtain ⟨c6, h⟩ := ck_some.1 h
      refine AO.allF tab_ok (by decide) [(3, .bp 1900 0)] [(12, .arr 3 (.int .i64) (st1 ++ [y1.1])), (1900, .box 25 [.own 12])] (by (simp only [go_sem]) <;> (repeat' with_reducible apply And.intro) <;> first | assumption | rfl | omega | (unfold maxLen; omega)) ?_
      refine ablock_n ?_
      obtain rfl := Option.some.inj h
      exact rpost_next rfl [] [] [] rfl (by (simp only [go_sem]) <;> (repeat' with_reducible apply And.intro) <;> first | assumption | rfl | omega | (unfold maxLen; omega))
    · cases x3 with
      | inl st1_2 =>
        try simp only at h
        refine ablock_n ?_
        refine athen_n ?_
        exact AW.weaken (Wk.le [] [] [] rfl (by (simp only [go_sem]) <;> (repeat' with_reducible apply And.intro) <;> first | assumption | rfl | omega | (unfold maxLen; omega)) (by (simp only [go_sem]) <;> (repeat' with_reducible apply And.intro) <;> first | assumption | rfl | omega | (unfold maxLen; omega))) (hk_spec_machine_reached_k1 _ h)
      | inr rx =>
        exact rx.elim

set_option maxRecDepth 100000 in
set_option maxHeartbeats 2000000 in
theorem hc_spec_Reached (s : Int × Int × (List (List Int)) × (List (List Int))) {r : (List Int) × Int} (h : spec_Reached s = some r) : HC Try.prog 30 [] [.agg [.int .i64 s.1, .int .i64 s.2.1, .sl (.sl (.int .i64)) s.2.2.1, .sl (.sl (.int .i64)) s.2.2.2]] [(2000, .arr 3 (.int .i64) r.1)] (.tup [.own 2000, .int .i64 r.2]) := by
  unfold spec_Reached at h
  refine HC.of_body tab_ok (res := [.tmp 2, .tmp 3]) Try.func30 rfl (by kernel_rfl) rfl (nt := 16) rfl (by decide) (by simp) ?_
  refine AW.seq ?_
  refine AW.ops ?_
  refine AO.allF tab_ok (by decide) [(1, .bp 1 0)] [(1, .box 24 [.int .i64 s.1, .int .i64 s.2.1, .sl (.sl (.int .i64)) s.2.2.1, .sl (.sl (.int .i64)) s.2.2.2])] (by (simp only [go_sem]) <;> (repeat' with_reducible apply And.intro) <;> first | assumption | rfl | omega | (unfold maxLen; omega)) ?_
  refine athen_n ?_
  refine AW.seq ?_
  refine AW.ops ?_
  refine AO.segF tab_ok 1 (by decide) [(7, .agg [.int .i64 s.1, .int .i64 s.2.1, .sl (.sl (.int .i64)) s.2.2.1, .sl (.sl (.int .i64)) s.2.2.2])] [] (by (simp only [go_sem]) <;> (repeat' with_reducible apply And.intro) <;> first | assumption | rfl | omega | (unfold maxLen; omega)) ?_
  obtain ⟨v0, hv1, h⟩ := Option.bind_eq_some_iff.1 h
  refine AO.call tab_ok (by decide) rfl rfl rfl (fun _ h => h) [] [] (hc_spec_checked s [] hv1) rfl (by (simp only [go_sem]) <;> (repeat' with_reducible apply And.intro) <;> first | assumption | rfl | omega | (unfold maxLen; omega)) (by (simp only [go_sem]) <;> (repeat' with_reducible apply And.intro) <;> first | assumption | rfl | omega | (unfold maxLen; omega)) [(8, .tup [.agg [.int .i64 v0.1, .int .i64 v0.2.1, .sl (.sl (.int .i64)) v0.2.2.1, .sl (.sl (.int .i64)) v0.2.2.2.1], .int .i64 v0.2.2.2.2])] [] (by (simp only [go_sem]) <;> (repeat' with_reducible apply And.intro) <;> first | assumption | rfl | omega | (unfold maxLen; omega)) ?_
  refine AO.allF tab_ok (by decide) [(4, .bp 4 0), (5, .int .i64 v0.2.2.2.2)] [(4, .box 60 [.int .i64 v0.1, .int .i64 v0.2.1, .sl (.sl (.int .i64)) v0.2.2.1, .sl (.sl (.int .i64)) v0.2.2.2.1])] (by (simp only [go_sem]) <;> (repeat' with_reducible apply And.intro) <;> first | assumption | rfl | omega | (unfold maxLen; omega)) ?_
  refine athen_n ?_
  refine AW.seq ?_
  refine AW.seq ?_
  refine AW.ops ?_
  refine AO.allF tab_ok (by decide) [(4, .bp 4 0), (5, .int .i64 v0.2.2.2.2), (12, .bool (!(decide (v0.2.2.2.2 = 0))))] [(4, .box 60 [.int .i64 v0.1, .int .i64 v0.2.1, .sl (.sl (.int .i64)) v0.2.2.1, .sl (.sl (.int .i64)) v0.2.2.2.1])] (by (simp only [go_sem]) <;> (repeat' with_reducible apply And.intro) <;> first | assumption | rfl | omega | (unfold maxLen; omega)) ?_
  refine athen_n ?_
  refine AW.cond (b := (!(decide (v0.2.2.2.2 = 0)))) rfl (fun hb2 => ?_) (fun hb2 => ?_)
  · rw [if_pos hb2] at h
    refine AW.seq ?_
    refine AW.ops ?_
    refine AO.allF tab_ok (by decide) [(2, .cv (.slice none 0 0)), (3, .int .i64 v0.2.2.2.2)] [] (by (simp only [go_sem, hb2]) <;> (repeat' with_reducible apply And.intro) <;> first | assumption | rfl | omega | (unfold maxLen; omega)) ?_
    refine athen_n ?_
    refine AW.ret ?_
    refine athen_r ?_
    obtain rfl := Option.some.inj h
    exact ⟨rfl, [], [2000], [], rfl, (by (simp only [go_sem, hb2]) <;> (repeat' with_reducible apply And.intro) <;> first | assumption | rfl | omega | (unfold maxLen; omega))⟩
  · rw [if_neg (Bool.eq_false_iff.1 hb2)] at h
    refine AW.skip ?_
    refine athen_n ?_
    refine AW.seq ?_
    refine AW.ops ?_
    refine AO.segF tab_ok 1 (by decide) [(14, .agg [.int .i64 v0.1, .int .i64 v0.2.1, .sl (.sl (.int .i64)) v0.2.2.1, .sl (.sl (.int .i64)) v0.2.2.2.1])] [] (by (simp only [go_sem, hb2]) <;> (repeat' with_reducible apply And.intro) <;> first | assumption | rfl | omega | (unfold maxLen; omega)) ?_
    obtain ⟨v0_2, hv3, h⟩ := Option.bind_eq_some_iff.1 h
    refine AO.call tab_ok (by decide) rfl rfl rfl (fun _ h => h) [] [] (hc_spec_machine_reached (v0.1, v0.2.1, v0.2.2.1, v0.2.2.2.1) hv3) rfl (by (simp only [go_sem, hb2]) <;> (repeat' with_reducible apply And.intro) <;> first | assumption | rfl | omega | (unfold maxLen; omega)) (by (simp only [go_sem, hb2]) <;> (repeat' with_reducible apply And.intro) <;> first | assumption | rfl | omega | (unfold maxLen; omega)) [(15, .own 25000)] [(25000, .arr 3 (.int .i64) v0_2)] (by (simp only [go_sem, hb2]) <;> (repeat' with_reducible apply And.intro) <;> first | assumption | rfl | omega | (unfold maxLen; omega)) ?_
    refine AO.allF tab_ok (by decide) [(2, .own 25000), (3, .int .i64 0)] [(25000, .arr 3 (.int .i64) v0_2)] (by (simp only [go_sem, hb2]) <;> (repeat' with_reducible apply And.intro) <;> first | assumption | rfl | omega | (unfold maxLen; omega)) ?_
    refine athen_n ?_
    refine AW.ret ?_
    obtain rfl := Option.some.inj h
    exact ⟨rfl, [], [], [(2000, 25000)], rfl, (by (simp only [go_sem, hb2]) <;> (repeat' with_reducible apply And.intro) <;> first | assumption | rfl | omega | (unfold maxLen; omega))⟩

set_option maxRecDepth 100000 in
set_option maxHeartbeats 2000000 in
theorem hc_spec_machine_commute (m : Int × Int × (List (List Int)) × (List (List Int))) (state : Int) (a : Int) (b : Int) {r : Bool} (h : spec_machine_commute m state a b = some r) : HC Try.prog 84 [] [.agg [.int .i64 m.1, .int .i64 m.2.1, .sl (.sl (.int .i64)) m.2.2.1, .sl (.sl (.int .i64)) m.2.2.2], .int .i64 state, .int .i64 a, .int .i64 b] [] (.bool r) := by
  unfold spec_machine_commute at h
  refine HC.of_body tab_ok (res := [.tmp 8]) Try.func84 rfl (by kernel_rfl) rfl (nt := 53) rfl (by decide) (by simp) ?_
  refine AW.seq ?_
  refine AW.ops ?_
  refine AO.allF tab_ok (by decide) [(1, .int .i64 state), (2, .int .i64 a), (3, .int .i64 b), (4, .bp 4 0)] [(4, .box 60 [.int .i64 m.1, .int .i64 m.2.1, .sl (.sl (.int .i64)) m.2.2.1, .sl (.sl (.int .i64)) m.2.2.2])] (by (simp only [go_sem]) <;> (repeat' with_reducible apply And.intro) <;> first | assumption | rfl | omega | (unfold maxLen; omega)) ?_
  refine athen_n ?_
  refine AW.seq ?_
  refine AW.ops ?_
  refine AO.segF tab_ok 5 (by decide) [(1, .int .i64 state), (2, .int .i64 a), (3, .int .i64 b), (4, .bp 4 0), (14, .agg [.int .i64 m.1, .int .i64 m.2.1, .sl (.sl (.int .i64)) m.2.2.1, .sl (.sl (.int .i64)) m.2.2.2]), (15, .int .i64 state), (18, .own 18)] [(4, .box 60 [.int .i64 m.1, .int .i64 m.2.1, .sl (.sl (.int .i64)) m.2.2.1, .sl (.sl (.int .i64)) m.2.2.2]), (18, .arr 3 (.int .i64) [a, b])] (by (simp only [go_sem]) <;> (repeat' with_reducible apply And.intro) <;> first | assumption | rfl | omega | (unfold maxLen; omega)) ?_
  obtain ⟨v0, hv1, h⟩ := Option.bind_eq_some_iff.1 h
  refine AO.call tab_ok (by decide) rfl rfl rfl (fun _ h => h) [18] [] (hc_spec_machine_run m state [a, b] hv1) rfl (by (simp only [go_sem]) <;> (repeat' with_reducible apply And.intro) <;> first | assumption | rfl | omega | (unfold maxLen; omega)) (by (simp only [go_sem]) <;> (repeat' with_reducible apply And.intro) <;> first | assumption | rfl | omega | (unfold maxLen; omega)) [(1, .int .i64 state), (2, .int .i64 a), (3, .int .i64 b), (4, .bp 4 0), (19, .tup [.own 29000, .int .i64 v0.2])] [(4, .box 60 [.int .i64 m.1, .int .i64 m.2.1, .sl (.sl (.int .i64)) m.2.2.1, .sl (.sl (.int .i64)) m.2.2.2]), (29000, .arr 3 (.int .i64) v0.1)] (by (simp only [go_sem]) <;> (repeat' with_reducible apply And.intro) <;> first | assumption | rfl | omega | (unfold maxLen; omega)) ?_
  refine AO.allF tab_ok (by decide) [(1, .int .i64 state), (2, .int .i64 a), (3, .int .i64 b), (4, .bp 4 0), (9, .own 29000), (10, .int .i64 v0.2)] [(4, .box 60 [.int .i64 m.1, .int .i64 m.2.1, .sl (.sl (.int .i64)) m.2.2.1, .sl (.sl (.int .i64)) m.2.2.2]), (29000, .arr 3 (.int .i64) v0.1)] (by (simp only [go_sem]) <;> (repeat' with_reducible apply And.intro) <;> first | assumption | rfl | omega | (unfold maxLen; omega)) ?_
  refine athen_n ?_
  refine AW.seq ?_
  refine AW.ops ?_
  refine AO.segF tab_ok 5 (by decide) [(4, .bp 4 0), (9, .own 29000), (10, .int .i64 v0.2), (23, .agg [.int .i64 m.1, .int .i64 m.2.1, .sl (.sl (.int .i64)) m.2.2.1, .sl (.sl (.int .i64)) m.2.2.2]), (24, .int .i64 state), (27, .own 27)] [(4, .box 60 [.int .i64 m.1, .int .i64 m.2.1, .sl (.sl (.int .i64)) m.2.2.1, .sl (.sl (.int .i64)) m.2.2.2]), (27, .arr 3 (.int .i64) [b, a]), (29000, .arr 3 (.int .i64) v0.1)] (by (simp only [go_sem]) <;> (repeat' with_reducible apply And.intro) <;> first | assumption | rfl | omega | (unfold maxLen; omega)) ?_
  obtain ⟨v0_2, hv2, h⟩ := Option.bind_eq_some_iff.1 h
  refine AO.call tab_ok (by decide) rfl rfl rfl (fun _ h => h) [27] [] (hc_spec_machine_run m state [b, a] hv2) rfl (by (simp only [go_sem]) <;> (repeat' with_reducible apply And.intro) <;> first | assumption | rfl | omega | (unfold maxLen; omega)) (by (simp only [go_sem]) <;> (repeat' with_reducible apply And.intro) <;> first | assumption | rfl | omega | (unfold maxLen; omega)) [(4, .bp 4 0), (9, .own 29000), (10, .int .i64 v0.2), (28, .tup [.own 38000, .int .i64 v0_2.2])] [(4, .box 60 [.int .i64 m.1, .int .i64 m.2.1, .sl (.sl (.int .i64)) m.2.2.1, .sl (.sl (.int .i64)) m.2.2.2]), (29000, .arr 3 (.int .i64) v0.1), (38000, .arr 3 (.int .i64) v0_2.1)] (by (simp only [go_sem]) <;> (repeat' with_reducible apply And.intro) <;> first | assumption | rfl | omega | (unfold maxLen; omega)) ?_
  refine AO.allF tab_ok (by decide) [(4, .bp 4 0), (9, .own 29000), (10, .int .i64 v0.2), (11, .own 38000), (12, .int .i64 v0_2.2)] [(4, .box 60 [.int .i64 m.1, .int .i64 m.2.1, .sl (.sl (.int .i64)) m.2.2.1, .sl (.sl (.int .i64)) m.2.2.2]), (29000, .arr 3 (.int .i64) v0.1), (38000, .arr 3 (.int .i64) v0_2.1)] (by (simp only [go_sem]) <;> (repeat' with_reducible apply And.intro) <;> first | assumption | rfl | omega | (unfold maxLen; omega)) ?_
  refine athen_n ?_
  refine AW.seq ?_
  refine AW.draw tab_ok mixed_ok [] [] (by decide) (by kernel_rfl) ?_
  obtain ⟨c4, h⟩ := ck_some.1 h
  obtain ⟨c5, h⟩ := ck_some.1 h
  refine adops_cut 6 (fun K' hK3 => ?_)
  try dsimp only [List.drop_succ_cons, List.drop_zero, List.take_succ_cons, List.take_zero]
  simp only [go_sem]
  repeat (with_reducible refine And.intro (by first | assumption | rfl | omega | trivial | (unfold maxLen; omega)) ?_)
  refine hK3 _ ?_
  refine adops_cut 2 (fun K' hK6 => ?_)
  try dsimp only [List.drop_succ_cons, List.drop_zero, List.take_succ_cons, List.take_zero]
  simp only [go_sem]
  repeat (with_reducible refine And.intro (by first | assumption | rfl | omega | trivial | (unfold maxLen; omega)) ?_)
  refine hK6 _ ?_
  rcases Bool.eq_false_or_eq_true (decide ((v0.1.getD 0 0) = (v0_2.1.getD 1 0))) with hb7 | hb7
  · rw [if_pos hb7] at h
    simp only [hb7]
    obtain ⟨c9, h⟩ := ck_some.1 h
    obtain ⟨c10, h⟩ := ck_some.1 h
    refine adops_cut 6 (fun K' hK8 => ?_)
    try dsimp only [List.drop_succ_cons, List.drop_zero, List.take_succ_cons, List.take_zero]
    simp only [go_sem, hb7]
    repeat (with_reducible refine And.intro (by first | assumption | rfl | omega | trivial | (unfold maxLen; omega)) ?_)
    refine hK8 _ ?_
    refine adops_cut 3 (fun K' hK11 => ?_)
    try dsimp only [List.drop_succ_cons, List.drop_zero, List.take_succ_cons, List.take_zero]
    simp only [go_sem, hb7]
    repeat (with_reducible refine And.intro (by first | assumption | rfl | omega | trivial | (unfold maxLen; omega)) ?_)
    refine hK11 _ ?_
    rcases Bool.eq_false_or_eq_true (decide ((v0.1.getD 1 0) = (v0_2.1.getD 0 0))) with hb12 | hb12
    · rw [if_pos hb12] at h
      simp only [hb12]
      refine adops_cut 3 (fun K' hK13 => ?_)
      try dsimp only [List.drop_succ_cons, List.drop_zero, List.take_succ_cons, List.take_zero]
      simp only [go_sem, hb7, hb12]
      repeat (with_reducible refine And.intro (by first | assumption | rfl | omega | trivial | (unfold maxLen; omega)) ?_)
      refine hK13 _ ?_
      obtain ⟨v0_3, hv14, h⟩ := Option.bind_eq_some_iff.1 h
      refine adops.call (by first | trivial | rfl) rfl rfl rfl (fun _ h => ⟨fun _ => h, fun hn => absurd rfl hn⟩) [] [] (hc_spec_machine_same m v0.2 v0_2.2 hv14) rfl (by (simp only [go_sem, hb7, hb12]) <;> (repeat' with_reducible apply And.intro) <;> first | assumption | rfl | omega | (unfold maxLen; omega)) (by (simp only [go_sem, hb7, hb12]) <;> (repeat' with_reducible apply And.intro) <;> first | assumption | rfl | omega | (unfold maxLen; omega)) rfl ?_
      refine adops_cut 2 (fun K' hK15 => ?_)
      try dsimp only [List.drop_succ_cons, List.drop_zero, List.take_succ_cons, List.take_zero]
      simp only [go_sem, hb7, hb12]
      repeat (with_reducible refine And.intro (by first | assumption | rfl | omega | trivial | (unfold maxLen; omega)) ?_)
      refine hK15 _ ?_
      refine adops_nil ?_
      refine athen_n ?_
      refine AW.weaken (s' := ⟨fr [(8, .bool v0_3)], hpGet [], gt⟩) (Wk.to (by (simp only [go_sem, hb7, hb12]) <;> (repeat' with_reducible apply And.intro) <;> first | assumption | rfl | omega | (unfold maxLen; omega))) ?_
      refine AW.ret ?_
      obtain rfl := Option.some.inj h
      exact ⟨rfl, [], [], [], rfl, (by (simp only [go_sem, hb7, hb12]) <;> (repeat' with_reducible apply And.intro) <;> first | assumption | rfl | omega | (unfold maxLen; omega))⟩
    · rw [if_neg (Bool.eq_false_iff.1 hb12)] at h
      simp only [hb12]
      refine adops_cut 4 (fun K' hK16 => ?_)
      try dsimp only [List.drop_succ_cons, List.drop_zero, List.take_succ_cons, List.take_zero]
      simp only [go_sem, hb7, hb12]
      repeat (with_reducible refine And.intro (by first | assumption | rfl | omega | trivial | (unfold maxLen; omega)) ?_)
      refine hK16 _ ?_
      refine adops_cut 2 (fun K' hK17 => ?_)
      try dsimp only [List.drop_succ_cons, List.drop_zero, List.take_succ_cons, List.take_zero]
      simp only [go_sem, hb7, hb12]
      repeat (with_reducible refine And.intro (by first | assumption | rfl | omega | trivial | (unfold maxLen; omega)) ?_)
      refine hK17 _ ?_
      refine adops_nil ?_
      refine athen_n ?_
      refine AW.weaken (s' := ⟨fr [(8, .bool false)], hpGet [], gt⟩) (Wk.to (by (simp only [go_sem, hb7, hb12]) <;> (repeat' with_reducible apply And.intro) <;> first | assumption | rfl | omega | (unfold maxLen; omega))) ?_
      refine AW.ret ?_
      obtain rfl := Option.some.inj h
      exact ⟨rfl, [], [], [], rfl, (by (simp only [go_sem, hb7, hb12]) <;> (repeat' with_reducible apply And.intro) <;> first | assumption | rfl | omega | (unfold maxLen; omega))⟩
  · rw [if_neg (Bool.eq_false_iff.1 hb7)] at h
    simp only [hb7]
    refine adops_cut 4 (fun K' hK18 => ?_)
    try dsimp only [List.drop_succ_cons, List.drop_zero, List.take_succ_cons, List.take_zero]
    simp only [go_sem, hb7]
    repeat (with_reducible refine And.intro (by first | assumption | rfl | omega | trivial | (unfold maxLen; omega)) ?_)
    refine hK18 _ ?_
    refine adops_cut 6 (fun K' hK19 => ?_)
    try dsimp only [List.drop_succ_cons, List.drop_zero, List.take_succ_cons, List.take_zero]
    simp only [go_sem, hb7]
    repeat (with_reducible refine And.intro (by first | assumption | rfl | omega | trivial | (unfold maxLen; omega)) ?_)
    refine hK19 _ ?_
    refine adops_cut 5 (fun K' hK20 => ?_)
    try dsimp only [List.drop_succ_cons, List.drop_zero, List.take_succ_cons, List.take_zero]
    simp only [go_sem, hb7]
    repeat (with_reducible refine And.intro (by first | assumption | rfl | omega | trivial | (unfold maxLen; omega)) ?_)
    refine hK20 _ ?_
    refine adops_nil ?_
    refine athen_n ?_
    refine AW.weaken (s' := ⟨fr [(8, .bool false)], hpGet [], gt⟩) (Wk.to (by (simp only [go_sem, hb7]) <;> (repeat' with_reducible apply And.intro) <;> first | assumption | rfl | omega | (unfold maxLen; omega))) ?_
    refine AW.ret ?_
    obtain rfl := Option.some.inj h
    exact ⟨rfl, [], [], [], rfl, (by (simp only [go_sem, hb7]) <;> (repeat' with_reducible apply And.intro) <;> first | assumption | rfl | omega | (unfold maxLen; omega))⟩

set_option maxRecDepth 100000 in
set_option maxHeartbeats 2000000 in
theorem hc_spec_told (s : Int × Int × (List (List Int)) × (List (List Int))) (state : Int) (a : Int) (b : Int) {r : Bool × Int} (h : spec_told s state a b = some r) : HC Try.prog 83 [] [.agg [.int .i64 s.1, .int .i64 s.2.1, .sl (.sl (.int .i64)) s.2.2.1, .sl (.sl (.int .i64)) s.2.2.2], .fn (.func 84) [] [], .int .i64 state, .int .i64 a, .int .i64 b] [] (.tup [.bool r.1, .int .i64 r.2]) := by
  unfold spec_told at h
  refine HC.of_body tab_ok (res := [.tmp 10, .tmp 11]) Try.func83 rfl (by kernel_rfl) rfl (nt := 37) rfl (by decide) (by simp) ?_
  refine AW.seq ?_
  refine AW.ops ?_
  refine AO.allF tab_ok (by decide) [(1, .fn (.func 84) [] []), (2, .int .i64 state), (3, .int .i64 a), (4, .int .i64 b), (5, .bp 5 0)] [(5, .box 24 [.int .i64 s.1, .int .i64 s.2.1, .sl (.sl (.int .i64)) s.2.2.1, .sl (.sl (.int .i64)) s.2.2.2])] (by (simp only [go_sem]) <;> (repeat' with_reducible apply And.intro) <;> first | assumption | rfl | omega | (unfold maxLen; omega)) ?_
  refine athen_n ?_
  refine AW.seq ?_
  refine AW.ops ?_
  refine AO.segF tab_ok 3 (by decide) [(1, .fn (.func 84) [] []), (2, .int .i64 state), (3, .int .i64 a), (4, .int .i64 b), (15, .agg [.int .i64 s.1, .int .i64 s.2.1, .sl (.sl (.int .i64)) s.2.2.1, .sl (.sl (.int .i64)) s.2.2.2]), (17, .own 17)] [(17, .arr 3 (.int .i64) [state])] (by (simp only [go_sem]) <;> (repeat' with_reducible apply And.intro) <;> first | assumption | rfl | omega | (unfold maxLen; omega)) ?_
  obtain ⟨v0, hv1, h⟩ := Option.bind_eq_some_iff.1 h
  refine AO.call tab_ok (by decide) rfl rfl rfl (fun _ h => h) [17] [] (hc_spec_checked s [state] hv1) rfl (by (simp only [go_sem]) <;> (repeat' with_reducible apply And.intro) <;> first | assumption | rfl | omega | (unfold maxLen; omega)) (by (simp only [go_sem]) <;> (repeat' with_reducible apply And.intro) <;> first | assumption | rfl | omega | (unfold maxLen; omega)) [(1, .fn (.func 84) [] []), (2, .int .i64 state), (3, .int .i64 a), (4, .int .i64 b), (18, .tup [.agg [.int .i64 v0.1, .int .i64 v0.2.1, .sl (.sl (.int .i64)) v0.2.2.1, .sl (.sl (.int .i64)) v0.2.2.2.1], .int .i64 v0.2.2.2.2])] [] (by (simp only [go_sem]) <;> (repeat' with_reducible apply And.intro) <;> first | assumption | rfl | omega | (unfold maxLen; omega)) ?_
  refine AO.allF tab_ok (by decide) [(1, .fn (.func 84) [] []), (2, .int .i64 state), (3, .int .i64 a), (4, .int .i64 b), (12, .bp 12 0), (13, .int .i64 v0.2.2.2.2)] [(12, .box 60 [.int .i64 v0.1, .int .i64 v0.2.1, .sl (.sl (.int .i64)) v0.2.2.1, .sl (.sl (.int .i64)) v0.2.2.2.1])] (by (simp only [go_sem]) <;> (repeat' with_reducible apply And.intro) <;> first | assumption | rfl | omega | (unfold maxLen; omega)) ?_
  refine athen_n ?_
  refine AW.seq ?_
  refine AW.seq ?_
  refine AW.ops ?_
  refine AO.allF tab_ok (by decide) [(1, .fn (.func 84) [] []), (2, .int .i64 state), (3, .int .i64 a), (4, .int .i64 b), (12, .bp 12 0), (13, .int .i64 v0.2.2.2.2), (22, .bool (!(decide (v0.2.2.2.2 = 0))))] [(12, .box 60 [.int .i64 v0.1, .int .i64 v0.2.1, .sl (.sl (.int .i64)) v0.2.2.1, .sl (.sl (.int .i64)) v0.2.2.2.1])] (by (simp only [go_sem]) <;> (repeat' with_reducible apply And.intro) <;> first | assumption | rfl | omega | (unfold maxLen; omega)) ?_
  refine athen_n ?_
  refine AW.cond (b := (!(decide (v0.2.2.2.2 = 0)))) rfl (fun hb2 => ?_) (fun hb2 => ?_)
  · rw [if_pos hb2] at h
    refine AW.seq ?_
    refine AW.ops ?_
    refine AO.allF tab_ok (by decide) [(10, .bool false), (11, .int .i64 v0.2.2.2.2)] [] (by (simp only [go_sem, hb2]) <;> (repeat' with_reducible apply And.intro) <;> first | assumption | rfl | omega | (unfold maxLen; omega)) ?_
    refine athen_n ?_
    refine AW.ret ?_
    refine athen_r ?_
    obtain rfl := Option.some.inj h
    exact ⟨rfl, [], [], [], rfl, (by (simp only [go_sem, hb2]) <;> (repeat' with_reducible apply And.intro) <;> first | assumption | rfl | omega | (unfold maxLen; omega))⟩
  · rw [if_neg (Bool.eq_false_iff.1 hb2)] at h
    refine AW.skip ?_
    refine athen_n ?_
    refine AW.seq ?_
    refine AW.seq ?_
    refine AW.ops ?_
    refine AO.segF tab_ok 5 (by decide) [(1, .fn (.func 84) [] []), (2, .int .i64 state), (3, .int .i64 a), (4, .int .i64 b), (12, .bp 12 0), (25, .fn (.func 89) [.agg [.int .i64 v0.1, .int .i64 v0.2.1, .sl (.sl (.int .i64)) v0.2.2.1, .sl (.sl (.int .i64)) v0.2.2.2.1]] []), (28, .own 28)] [(12, .box 60 [.int .i64 v0.1, .int .i64 v0.2.1, .sl (.sl (.int .i64)) v0.2.2.1, .sl (.sl (.int .i64)) v0.2.2.2.1]), (28, .arr 3 (.int .i64) [a, b])] (by (simp only [go_sem, hb2]) <;> (repeat' with_reducible apply And.intro) <;> first | assumption | rfl | omega | (unfold maxLen; omega)) ?_
    obtain ⟨v0_2, hv3, h⟩ := Option.bind_eq_some_iff.1 h
    refine AO.call tab_ok (by decide) rfl rfl rfl (fun _ h => h) [28] [] (hc_spec_all_3 (v0.1, v0.2.1, v0.2.2.1, v0.2.2.2.1) [a, b] hv3) rfl (by (simp only [go_sem, hb2]) <;> (repeat' with_reducible apply And.intro) <;> first | assumption | rfl | omega | (unfold maxLen; omega)) (by (simp only [go_sem, hb2]) <;> (repeat' with_reducible apply And.intro) <;> first | assumption | rfl | omega | (unfold maxLen; omega)) [(1, .fn (.func 84) [] []), (2, .int .i64 state), (3, .int .i64 a), (4, .int .i64 b), (12, .bp 12 0), (29, .bool v0_2)] [(12, .box 60 [.int .i64 v0.1, .int .i64 v0.2.1, .sl (.sl (.int .i64)) v0.2.2.1, .sl (.sl (.int .i64)) v0.2.2.2.1])] (by (simp only [go_sem, hb2]) <;> (repeat' with_reducible apply And.intro) <;> first | assumption | rfl | omega | (unfold maxLen; omega)) ?_
    refine AO.allF tab_ok (by decide) [(1, .fn (.func 84) [] []), (2, .int .i64 state), (3, .int .i64 a), (4, .int .i64 b), (12, .bp 12 0), (30, .bool (!v0_2))] [(12, .box 60 [.int .i64 v0.1, .int .i64 v0.2.1, .sl (.sl (.int .i64)) v0.2.2.1, .sl (.sl (.int .i64)) v0.2.2.2.1])] (by (simp only [go_sem, hb2]) <;> (repeat' with_reducible apply And.intro) <;> first | assumption | rfl | omega | (unfold maxLen; omega)) ?_
    refine athen_n ?_
    refine AW.cond (b := (!v0_2)) rfl (fun hb4 => ?_) (fun hb4 => ?_)
    · rw [if_pos hb4] at h
      refine AW.seq ?_
      refine AW.ops ?_
      refine AO.allF tab_ok (by decide) [(10, .bool false), (11, .int .i64 2)] [] (by (simp only [go_sem, hb2, hb4]) <;> (repeat' with_reducible apply And.intro) <;> first | assumption | rfl | omega | (unfold maxLen; omega)) ?_
      refine athen_n ?_
      refine AW.ret ?_
      refine athen_r ?_
      obtain rfl := Option.some.inj h
      exact ⟨rfl, [], [], [], rfl, (by (simp only [go_sem, hb2, hb4]) <;> (repeat' with_reducible apply And.intro) <;> first | assumption | rfl | omega | (unfold maxLen; omega))⟩
    · rw [if_neg (Bool.eq_false_iff.1 hb4)] at h
      refine AW.skip ?_
      refine athen_n ?_
      refine AW.seq ?_
      refine AW.ops ?_
      refine AO.segF tab_ok 5 (by decide) [(31, .fn (.func 84) [] []), (32, .agg [.int .i64 v0.1, .int .i64 v0.2.1, .sl (.sl (.int .i64)) v0.2.2.1, .sl (.sl (.int .i64)) v0.2.2.2.1]), (33, .int .i64 state), (34, .int .i64 a), (35, .int .i64 b)] [] (by (simp only [go_sem, hb2, hb4]) <;> (repeat' with_reducible apply And.intro) <;> first | assumption | rfl | omega | (unfold maxLen; omega)) ?_
      obtain ⟨v0_3, hv5, h⟩ := Option.bind_eq_some_iff.1 h
      refine AO.call tab_ok (by decide) rfl rfl rfl (fun _ h => h) [] [] (hc_spec_machine_commute (v0.1, v0.2.1, v0.2.2.1, v0.2.2.2.1) state a b hv5) rfl (by (simp only [go_sem, hb2, hb4]) <;> (repeat' with_reducible apply And.intro) <;> first | assumption | rfl | omega | (unfold maxLen; omega)) (by (simp only [go_sem, hb2, hb4]) <;> (repeat' with_reducible apply And.intro) <;> first | assumption | rfl | omega | (unfold maxLen; omega)) [(36, .bool v0_3)] [] (by (simp only [go_sem, hb2, hb4]) <;> (repeat' with_reducible apply And.intro) <;> first | assumption | rfl | omega | (unfold maxLen; omega)) ?_
      refine AO.allF tab_ok (by decide) [(10, .bool v0_3), (11, .int .i64 0)] [] (by (simp only [go_sem, hb2, hb4]) <;> (repeat' with_reducible apply And.intro) <;> first | assumption | rfl | omega | (unfold maxLen; omega)) ?_
      refine athen_n ?_
      refine AW.ret ?_
      obtain rfl := Option.some.inj h
      exact ⟨rfl, [], [], [], rfl, (by (simp only [go_sem, hb2, hb4]) <;> (repeat' with_reducible apply And.intro) <;> first | assumption | rfl | omega | (unfold maxLen; omega))⟩

set_option maxRecDepth 100000 in
set_option maxHeartbeats 2000000 in
theorem hc_spec_Commute (s : Int × Int × (List (List Int)) × (List (List Int))) (state : Int) (a : Int) (b : Int) {r : Bool × Int} (h : spec_Commute s state a b = some r) : HC Try.prog 43 [] [.agg [.int .i64 s.1, .int .i64 s.2.1, .sl (.sl (.int .i64)) s.2.2.1, .sl (.sl (.int .i64)) s.2.2.2], .int .i64 state, .int .i64 a, .int .i64 b] [] (.tup [.bool r.1, .int .i64 r.2]) := by
  unfold spec_Commute at h
  refine HC.of_body tab_ok (res := [.tmp 8, .tmp 9]) Try.func43 rfl (by kernel_rfl) rfl (nt := 17) rfl (by decide) (by simp) ?_
  refine AW.seq ?_
  refine AW.ops ?_
  refine AO.allF tab_ok (by decide) [(1, .int .i64 state), (2, .int .i64 a), (3, .int .i64 b), (4, .bp 4 0)] [(4, .box 24 [.int .i64 s.1, .int .i64 s.2.1, .sl (.sl (.int .i64)) s.2.2.1, .sl (.sl (.int .i64)) s.2.2.2])] (by (simp only [go_sem]) <;> (repeat' with_reducible apply And.intro) <;> first | assumption | rfl | omega | (unfold maxLen; omega)) ?_
  refine athen_n ?_
  refine AW.seq ?_
  refine AW.ops ?_
  refine AO.segF tab_ok 4 (by decide) [(10, .agg [.int .i64 s.1, .int .i64 s.2.1, .sl (.sl (.int .i64)) s.2.2.1, .sl (.sl (.int .i64)) s.2.2.2]), (11, .int .i64 state), (12, .int .i64 a), (13, .int .i64 b)] [] (by (simp only [go_sem]) <;> (repeat' with_reducible apply And.intro) <;> first | assumption | rfl | omega | (unfold maxLen; omega)) ?_
  obtain ⟨v0, hv1, h⟩ := Option.bind_eq_some_iff.1 h
  refine AO.call tab_ok (by decide) rfl rfl rfl (fun _ h => h) [] [] (hc_spec_told s state a b hv1) rfl (by (simp only [go_sem]) <;> (repeat' with_reducible apply And.intro) <;> first | assumption | rfl | omega | (unfold maxLen; omega)) (by (simp only [go_sem]) <;> (repeat' with_reducible apply And.intro) <;> first | assumption | rfl | omega | (unfold maxLen; omega)) [(14, .tup [.bool v0.1, .int .i64 v0.2])] [] (by (simp only [go_sem]) <;> (repeat' with_reducible apply And.intro) <;> first | assumption | rfl | omega | (unfold maxLen; omega)) ?_
  refine AO.allF tab_ok (by decide) [(8, .bool v0.1), (9, .int .i64 v0.2)] [] (by (simp only [go_sem]) <;> (repeat' with_reducible apply And.intro) <;> first | assumption | rfl | omega | (unfold maxLen; omega)) ?_
  refine athen_n ?_
  refine AW.ret ?_
  obtain rfl := Option.some.inj h
  exact ⟨rfl, [], [], [], rfl, (by (simp only [go_sem]) <;> (repeat' with_reducible apply And.intro) <;> first | assumption | rfl | omega | (unfold maxLen; omega))⟩

set_option maxRecDepth 100000 in
set_option maxHeartbeats 2000000 in
theorem hc_spec_Reads (s : Int × Int × (List (List Int)) × (List (List Int))) (op0 : Int) {r : Bool × Int} (h : spec_Reads s op0 = some r) : HC Try.prog 47 [] [.agg [.int .i64 s.1, .int .i64 s.2.1, .sl (.sl (.int .i64)) s.2.2.1, .sl (.sl (.int .i64)) s.2.2.2], .int .i64 op0] [] (.tup [.bool r.1, .int .i64 r.2]) := by
  unfold spec_Reads at h
  refine HC.of_body tab_ok (res := [.cell 4 4, .cell 5 28]) Try.func47 rfl (by kernel_rfl) rfl (nt := 37) rfl (by decide) (by simp) ?_
  refine AW.seq ?_
  refine AW.ops ?_
  refine AO.allF tab_ok (by decide) [(2, .bp 2 0), (3, .bp 3 0), (4, .bp 4 0), (5, .bp 5 0)] [(2, .box 24 [.int .i64 s.1, .int .i64 s.2.1, .sl (.sl (.int .i64)) s.2.2.1, .sl (.sl (.int .i64)) s.2.2.2]), (3, .box 3 [.int .i64 op0]), (4, .box 4 [.bool false]), (5, .box 28 [.int .i64 0])] (by (simp only [go_sem]) <;> (repeat' with_reducible apply And.intro) <;> first | assumption | rfl | omega | (unfold maxLen; omega)) ?_
  refine athen_n ?_
  refine AW.seq ?_
  refine AW.ops ?_
  refine AO.segF tab_ok 1 (by decide) [(3, .bp 3 0), (4, .bp 4 0), (5, .bp 5 0), (10, .agg [.int .i64 s.1, .int .i64 s.2.1, .sl (.sl (.int .i64)) s.2.2.1, .sl (.sl (.int .i64)) s.2.2.2])] [(3, .box 3 [.int .i64 op0]), (4, .box 4 [.bool false]), (5, .box 28 [.int .i64 0])] (by (simp only [go_sem]) <;> (repeat' with_reducible apply And.intro) <;> first | assumption | rfl | omega | (unfold maxLen; omega)) ?_
  obtain ⟨v0, hv1, h⟩ := Option.bind_eq_some_iff.1 h
  refine AO.call tab_ok (by decide) rfl rfl rfl (fun _ h => h) [] [] (hc_spec_checked s [] hv1) rfl (by (simp only [go_sem]) <;> (repeat' with_reducible apply And.intro) <;> first | assumption | rfl | omega | (unfold maxLen; omega)) (by (simp only [go_sem]) <;> (repeat' with_reducible apply And.intro) <;> first | assumption | rfl | omega | (unfold maxLen; omega)) [(3, .bp 3 0), (4, .bp 4 0), (5, .bp 5 0), (11, .tup [.agg [.int .i64 v0.1, .int .i64 v0.2.1, .sl (.sl (.int .i64)) v0.2.2.1, .sl (.sl (.int .i64)) v0.2.2.2.1], .int .i64 v0.2.2.2.2])] [(3, .box 3 [.int .i64 op0]), (4, .box 4 [.bool false]), (5, .box 28 [.int .i64 0])] (by (simp only [go_sem]) <;> (repeat' with_reducible apply And.intro) <;> first | assumption | rfl | omega | (unfold maxLen; omega)) ?_
  refine AO.allF tab_ok (by decide) [(3, .bp 3 0), (4, .bp 4 0), (5, .bp 5 0), (6, .bp 6 0), (7, .int .i64 v0.2.2.2.2)] [(3, .box 3 [.int .i64 op0]), (4, .box 4 [.bool false]), (5, .box 28 [.int .i64 0]), (6, .box 60 [.int .i64 v0.1, .int .i64 v0.2.1, .sl (.sl (.int .i64)) v0.2.2.1, .sl (.sl (.int .i64)) v0.2.2.2.1])] (by (simp only [go_sem]) <;> (repeat' with_reducible apply And.intro) <;> first | assumption | rfl | omega | (unfold maxLen; omega)) ?_
  refine athen_n ?_
  refine AW.seq ?_
  refine AW.seq ?_
  refine AW.ops ?_
  refine AO.allF tab_ok (by decide) [(3, .bp 3 0), (4, .bp 4 0), (5, .bp 5 0), (6, .bp 6 0), (7, .int .i64 v0.2.2.2.2), (15, .bool (!(decide (v0.2.2.2.2 = 0))))] [(3, .box 3 [.int .i64 op0]), (4, .box 4 [.bool false]), (5, .box 28 [.int .i64 0]), (6, .box 60 [.int .i64 v0.1, .int .i64 v0.2.1, .sl (.sl (.int .i64)) v0.2.2.1, .sl (.sl (.int .i64)) v0.2.2.2.1])] (by (simp only [go_sem]) <;> (repeat' with_reducible apply And.intro) <;> first | assumption | rfl | omega | (unfold maxLen; omega)) ?_
  refine athen_n ?_
  refine AW.cond (b := (!(decide (v0.2.2.2.2 = 0)))) rfl (fun hb2 => ?_) (fun hb2 => ?_)
  · rw [if_pos hb2] at h
    refine AW.seq ?_
    refine AW.ops ?_
    refine AO.allF tab_ok (by decide) [(4, .bp 4 0), (5, .bp 5 0)] [(4, .box 4 [.bool false]), (5, .box 28 [.int .i64 v0.2.2.2.2])] (by (simp only [go_sem, hb2]) <;> (repeat' with_reducible apply And.intro) <;> first | assumption | rfl | omega | (unfold maxLen; omega)) ?_
    refine athen_n ?_
    refine AW.ret ?_
    refine athen_r ?_
    obtain rfl := Option.some.inj h
    exact ⟨rfl, [], [], [], rfl, (by (simp only [go_sem, hb2]) <;> (repeat' with_reducible apply And.intro) <;> first | assumption | rfl | omega | (unfold maxLen; omega))⟩
  · rw [if_neg (Bool.eq_false_iff.1 hb2)] at h
    refine AW.skip ?_
    refine athen_n ?_
    refine AW.seq ?_
    refine AW.seq ?_
    refine AW.ops ?_
    refine AO.segF tab_ok 2 (by decide) [(3, .bp 3 0), (4, .bp 4 0), (5, .bp 5 0), (6, .bp 6 0), (17, .agg [.int .i64 v0.1, .int .i64 v0.2.1, .sl (.sl (.int .i64)) v0.2.2.1, .sl (.sl (.int .i64)) v0.2.2.2.1]), (18, .int .i64 op0)] [(3, .box 3 [.int .i64 op0]), (4, .box 4 [.bool false]), (5, .box 28 [.int .i64 0]), (6, .box 60 [.int .i64 v0.1, .int .i64 v0.2.1, .sl (.sl (.int .i64)) v0.2.2.1, .sl (.sl (.int .i64)) v0.2.2.2.1])] (by (simp only [go_sem, hb2]) <;> (repeat' with_reducible apply And.intro) <;> first | assumption | rfl | omega | (unfold maxLen; omega)) ?_
    obtain ⟨v0_2, hv3, h⟩ := Option.bind_eq_some_iff.1 h
    refine AO.call tab_ok (by decide) rfl rfl rfl (fun _ h => h) [] [] (hc_spec_machine_isCall (v0.1, v0.2.1, v0.2.2.1, v0.2.2.2.1) op0 hv3) rfl (by (simp only [go_sem, hb2]) <;> (repeat' with_reducible apply And.intro) <;> first | assumption | rfl | omega | (unfold maxLen; omega)) (by (simp only [go_sem, hb2]) <;> (repeat' with_reducible apply And.intro) <;> first | assumption | rfl | omega | (unfold maxLen; omega)) [(3, .bp 3 0), (4, .bp 4 0), (5, .bp 5 0), (6, .bp 6 0), (19, .bool v0_2)] [(3, .box 3 [.int .i64 op0]), (4, .box 4 [.bool false]), (5, .box 28 [.int .i64 0]), (6, .box 60 [.int .i64 v0.1, .int .i64 v0.2.1, .sl (.sl (.int .i64)) v0.2.2.1, .sl (.sl (.int .i64)) v0.2.2.2.1])] (by (simp only [go_sem, hb2]) <;> (repeat' with_reducible apply And.intro) <;> first | assumption | rfl | omega | (unfold maxLen; omega)) ?_
    refine AO.allF tab_ok (by decide) [(3, .bp 3 0), (4, .bp 4 0), (5, .bp 5 0), (6, .bp 6 0), (20, .bool (!v0_2))] [(3, .box 3 [.int .i64 op0]), (4, .box 4 [.bool false]), (5, .box 28 [.int .i64 0]), (6, .box 60 [.int .i64 v0.1, .int .i64 v0.2.1, .sl (.sl (.int .i64)) v0.2.2.1, .sl (.sl (.int .i64)) v0.2.2.2.1])] (by (simp only [go_sem, hb2]) <;> (repeat' with_reducible apply And.intro) <;> first | assumption | rfl | omega | (unfold maxLen; omega)) ?_
    refine athen_n ?_
    refine AW.cond (b := (!v0_2)) rfl (fun hb4 => ?_) (fun hb4 => ?_)
    · rw [if_pos hb4] at h
      refine AW.seq ?_
      refine AW.ops ?_
      refine AO.allF tab_ok (by decide) [(4, .bp 4 0), (5, .bp 5 0)] [(4, .box 4 [.bool false]), (5, .box 28 [.int .i64 2])] (by (simp only [go_sem, hb2, hb4]) <;> (repeat' with_reducible apply And.intro) <;> first | assumption | rfl | omega | (unfold maxLen; omega)) ?_
      refine athen_n ?_
      refine AW.ret ?_
      refine athen_r ?_
      obtain rfl := Option.some.inj h
      exact ⟨rfl, [], [], [], rfl, (by (simp only [go_sem, hb2, hb4]) <;> (repeat' with_reducible apply And.intro) <;> first | assumption | rfl | omega | (unfold maxLen; omega))⟩
    · rw [if_neg (Bool.eq_false_iff.1 hb4)] at h
      refine AW.skip ?_
      refine athen_n ?_
      refine AW.have1 (fun _ : Unit => spec_Reads_k1 = some r) (fun _ => ⟨fr [(4, .bp 4 0), (5, .bp 5 0)], hpGet [(4, .box 4 [.bool false]), (5, .box 28 [.int .i64 0])], gt⟩) (fun _ h => ?_) (fun hk_spec_Reads_k1 => ?_)
      · unfold spec_Reads_k1 at h
        refine AW.seq ?_
        refine AW.ops ?_
        refine AO.allF tab_ok (by decide) [(4, .bp 4 0), (5, .bp 5 0)] [(4, .box 4 [.bool true]), (5, .box 28 [.int .i64 0])] (by (simp only [go_sem, hb2, hb4]) <;> (repeat' with_reducible apply And.intro) <;> first | assumption | rfl | omega | (unfold maxLen; omega)) ?_
        refine athen_n ?_
        refine AW.ret ?_
        obtain rfl := Option.some.inj h
        exact ⟨rfl, [], [], [], rfl, (by (simp only [go_sem, hb2, hb4]) <;> (repeat' with_reducible apply And.intro) <;> first | assumption | rfl | omega | (unfold maxLen; omega))⟩
      · refine AW.seq ?_
        refine AW.seq ?_
        refine AW.ops ?_
        refine AO.segF tab_ok 1 (by decide) [(3, .bp 3 0), (4, .bp 4 0), (5, .bp 5 0), (6, .bp 6 0), (21, .agg [.int .i64 v0.1, .int .i64 v0.2.1, .sl (.sl (.int .i64)) v0.2.2.1, .sl (.sl (.int .i64)) v0.2.2.2.1])] [(3, .box 3 [.int .i64 op0]), (4, .box 4 [.bool false]), (5, .box 28 [.int .i64 0]), (6, .box 60 [.int .i64 v0.1, .int .i64 v0.2.1, .sl (.sl (.int .i64)) v0.2.2.1, .sl (.sl (.int .i64)) v0.2.2.2.1])] (by (simp only [go_sem, hb2, hb4]) <;> (repeat' with_reducible apply And.intro) <;> first | assumption | rfl | omega | (unfold maxLen; omega)) ?_
        obtain ⟨v0_3, hv5, h⟩ := Option.bind_eq_some_iff.1 h
        refine AO.call tab_ok (by decide) rfl rfl rfl (fun _ h => h) [] [] (hc_spec_machine_ways (v0.1, v0.2.1, v0.2.2.1, v0.2.2.2.1) hv5) rfl (by (simp only [go_sem, hb2, hb4]) <;> (repeat' with_reducible apply And.intro) <;> first | assumption | rfl | omega | (unfold maxLen; omega)) (by (simp only [go_sem, hb2, hb4]) <;> (repeat' with_reducible apply And.intro) <;> first | assumption | rfl | omega | (unfold maxLen; omega)) [(3, .bp 3 0), (4, .bp 4 0), (5, .bp 5 0), (6, .bp 6 0), (22, .fn (.func 97) [] [.bp 32000 0])] [(3, .box 3 [.int .i64 op0]), (4, .box 4 [.bool false]), (5, .box 28 [.int .i64 0]), (6, .box 60 [.int .i64 v0.1, .int .i64 v0.2.1, .sl (.sl (.int .i64)) v0.2.2.1, .sl (.sl (.int .i64)) v0.2.2.2.1]), (32000, .box 60 [.int .i64 v0.1, .int .i64 v0.2.1, .sl (.sl (.int .i64)) v0.2.2.1, .sl (.sl (.int .i64)) v0.2.2.2.1])] (by (simp only [go_sem, hb2, hb4]) <;> (repeat' with_reducible apply And.intro) <;> first | assumption | rfl | omega | (unfold maxLen; omega)) ?_
        refine AO.allF tab_ok (by decide) [(3, .bp 3 0), (4, .bp 4 0), (5, .bp 5 0), (6, .bp 6 0), (22, .fn (.func 97) [] [.bp 32000 0])] [(3, .box 3 [.int .i64 op0]), (4, .box 4 [.bool false]), (5, .box 28 [.int .i64 0]), (6, .box 60 [.int .i64 v0.1, .int .i64 v0.2.1, .sl (.sl (.int .i64)) v0.2.2.1, .sl (.sl (.int .i64)) v0.2.2.2.1]), (32000, .box 60 [.int .i64 v0.1, .int .i64 v0.2.1, .sl (.sl (.int .i64)) v0.2.2.1, .sl (.sl (.int .i64)) v0.2.2.2.1])] (by (simp only [go_sem, hb2, hb4]) <;> (repeat' with_reducible apply And.intro) <;> first | assumption | rfl | omega | (unfold maxLen; omega)) ?_
        refine athen_n ?_
        refine AW.block ?_
        obtain ⟨x6, hx7, h⟩ := Option.bind_eq_some_iff.1 h
        refine AW.weaken (s' := ⟨fr [(3, .bp 3 0), (4, .bp 4 0), (5, .bp 5 0), (6, .bp 6 0), (22, .fn (.func 97) [] [.bp 32000 0])], hpGet ([(32000, .box 60 [.int .i64 v0.1, .int .i64 v0.2.1, .sl (.sl (.int .i64)) v0.2.2.1, .sl (.sl (.int .i64)) v0.2.2.2.1])] ++ [(3, .box 3 [.int .i64 op0]), (4, .box 4 [.bool false]), (5, .box 28 [.int .i64 0]), (6, .box 60 [.int .i64 v0.1, .int .i64 v0.2.1, .sl (.sl (.int .i64)) v0.2.2.1, .sl (.sl (.int .i64)) v0.2.2.2.1])]), gt⟩) (Wk.le [] [] [] rfl (by (simp only [go_sem, hb2, hb4]) <;> (repeat' with_reducible apply And.intro) <;> first | assumption | rfl | omega | (unfold maxLen; omega)) (by (simp only [go_sem, hb2, hb4]) <;> (repeat' with_reducible apply And.intro) <;> first | assumption | rfl | omega | (unfold maxLen; omega))) ?_
        refine AW.rangeF (R := Unit) (l0 := [(3, .bp 3 0), (4, .bp 4 0), (5, .bp 5 0), (6, .bp 6 0)]) (hI := [(32000, .box 60 [.int .i64 v0.1, .int .i64 v0.2.1, .sl (.sl (.int .i64)) v0.2.2.1, .sl (.sl (.int .i64)) v0.2.2.2.1])]) (h0 := fun (st1 : Unit) => [(3, .box 3 [.int .i64 op0]), (4, .box 4 [.bool false]), (5, .box 28 [.int .i64 0]), (6, .box 60 [.int .i64 v0.1, .int .i64 v0.2.1, .sl (.sl (.int .i64)) v0.2.2.1, .sl (.sl (.int .i64)) v0.2.2.2.1])]) (gg := fun (st1 : Unit) => gt) (hx0 := (fun (_ : Unit) => [(3, .box 3 [.int .i64 op0]), (4, .box 4 [.bool false]), (5, .box 28 [.int .i64 0]), (6, .box 60 [.int .i64 v0.1, .int .i64 v0.2.1, .sl (.sl (.int .i64)) v0.2.2.1, .sl (.sl (.int .i64)) v0.2.2.2.1])])) (gx := (fun (_ : Unit) => gt)) (ex := (fun (_ : Unit) => Exit.ret)) () [(32000, 1000)] [(1000, 32000)] [(3, 1900), (4, 1901), (5, 1902), (6, 1903)] [(1900, 3), (1901, 4), (1902, 5), (1903, 6)] (by decide) rfl (by first | exact (ic_spec_machine_ways_1 (v0.1, v0.2.1, v0.2.2.1, v0.2.2.2.1) (spec_Reads_y1 op0 v0) () hx7) | simpa only [go_sem] using (ic_spec_machine_ways_1 (v0.1, v0.2.1, v0.2.2.1, v0.2.2.2.1) (spec_Reads_y1 op0 v0) () hx7)) (by (simp only [go_sem, hb2, hb4]) <;> (repeat' with_reducible apply And.intro) <;> first | assumption | rfl | omega | (unfold maxLen; omega)) rfl rfl rfl (fun _ => rfl) rfl (fun _ => rfl) rfl (fun _ => rfl) (fun _ => rfl) (fun _ => rfl) (fun _ => rfl) rfl (fun _ _ => by first | rfl | (exact (hΓ _).trans (hΓ _).symm) | (exact (hΓx _).trans (hΓ _).symm)) (fun _ _ => by first | rfl | (exact (hΓ _).trans (hΓ _).symm) | (exact (hΓx _).trans (hΓ _).symm)) ?_ ?_
        · intro lpy1 y1 st1 x8 h
          unfold spec_Reads_y1 at h
          refine AW.weaken (s' := ⟨fr [(3, .bp 1900 0), (4, .bp 1901 0), (5, .bp 1902 0), (6, .bp 1903 0), (23, .int .i64 y1.1), (24, .sl (.int .i64) y1.2)], hpGet [(1900, .box 3 [.int .i64 op0]), (1901, .box 4 [.bool false]), (1902, .box 28 [.int .i64 0]), (1903, .box 60 [.int .i64 v0.1, .int .i64 v0.2.1, .sl (.sl (.int .i64)) v0.2.2.1, .sl (.sl (.int .i64)) v0.2.2.2.1])], gt⟩) (Wk.to (by (simp only [go_sem, hb2, hb4]) <;> (repeat' with_reducible apply And.intro) <;> first | assumption | rfl | omega | (unfold maxLen; omega))) ?_
          refine AW.ops ?_
          refine AO.allF tab_ok (by decide) [(3, .bp 1900 0), (4, .bp 1901 0), (5, .bp 1902 0), (6, .bp 1903 0), (8, .int .i64 y1.1)] [(1900, .box 3 [.int .i64 op0]), (1901, .box 4 [.bool false]), (1902, .box 28 [.int .i64 0]), (1903, .box 60 [.int .i64 v0.1, .int .i64 v0.2.1, .sl (.sl (.int .i64)) v0.2.2.1, .sl (.sl (.int .i64)) v0.2.2.2.1])] (by (simp only [go_sem, hb2, hb4]) <;> (repeat' with_reducible apply And.intro) <;> first | assumption | rfl | omega | (unfold maxLen; omega)) ?_
          refine And.intro rfl ?_
          refine AW.block ?_
          refine AW.seq ?_
          refine AW.draw tab_ok mixed_ok [] [] (by decide) (by kernel_rfl) ?_
          obtain ⟨c10, h⟩ := ck_some.1 h
          obtain ⟨c11, h⟩ := ck_some.1 h
          refine adops_cut 6 (fun K' hK9 => ?_)
          try dsimp only [List.drop_succ_cons, List.drop_zero, List.take_succ_cons, List.take_zero]
          simp only [go_sem, hb2, hb4]
          repeat (with_reducible refine And.intro (by first | assumption | rfl | omega | trivial | (unfold maxLen; omega)) ?_)
          refine hK9 _ ?_
          obtain ⟨c13, h⟩ := ck_some.1 h
          obtain ⟨c14, h⟩ := ck_some.1 h
          refine adops_cut 4 (fun K' hK12 => ?_)
          try dsimp only [List.drop_succ_cons, List.drop_zero, List.take_succ_cons, List.take_zero]
          simp only [go_sem, hb2, hb4]
          repeat (with_reducible refine And.intro (by first | assumption | rfl | omega | trivial | (unfold maxLen; omega)) ?_)
          refine hK12 _ ?_
          obtain ⟨v0_4, hv15, h⟩ := Option.bind_eq_some_iff.1 h
          refine adops.call (by first | trivial | rfl) rfl rfl rfl (fun _ h => h) [] [] (hc_spec_machine_same (v0.1, v0.2.1, v0.2.2.1, v0.2.2.2.1) y1.1 ((v0.2.2.1.getD y1.1.toNat []).getD op0.toNat 0) hv15) rfl (by (simp only [go_sem, hb2, hb4]) <;> (repeat' with_reducible apply And.intro) <;> first | assumption | rfl | omega | (unfold maxLen; omega)) (by (simp only [go_sem, hb2, hb4]) <;> (repeat' with_reducible apply And.intro) <;> first | assumption | rfl | omega | (unfold maxLen; omega)) rfl ?_
          refine adops_cut 1 (fun K' hK16 => ?_)
          try dsimp only [List.drop_succ_cons, List.drop_zero, List.take_succ_cons, List.take_zero]
          simp only [go_sem, hb2, hb4]
          repeat (with_reducible refine And.intro (by first | assumption | rfl | omega | trivial | (unfold maxLen; omega)) ?_)
          refine hK16 _ ?_
          refine adops_nil ?_
          refine athen_n ?_
          refine AW.weaken (s' := ⟨fr [(3, .bp 1900 0), (4, .bp 1901 0), (5, .bp 1902 0), (6, .bp 1903 0), (36, .bool (!v0_4))], hpGet [(1900, .box 3 [.int .i64 op0]), (1901, .box 4 [.bool false]), (1902, .box 28 [.int .i64 0]), (1903, .box 60 [.int .i64 v0.1, .int .i64 v0.2.1, .sl (.sl (.int .i64)) v0.2.2.1, .sl (.sl (.int .i64)) v0.2.2.2.1])], gt⟩) (Wk.to (by (simp only [go_sem, hb2, hb4]) <;> (repeat' with_reducible apply And.intro) <;> first | assumption | rfl | omega | (unfold maxLen; omega))) ?_
          refine AW.cond (b := (!v0_4)) rfl (fun hb17 => ?_) (fun hb17 => ?_)
          · rw [if_pos hb17] at h
            refine AW.seq ?_
            refine AW.ops ?_
            refine AO.allF tab_ok (by decide) [(3, .bp 1900 0), (4, .bp 1901 0), (5, .bp 1902 0), (6, .bp 1903 0)] [(1900, .box 3 [.int .i64 op0]), (1901, .box 4 [.bool false]), (1902, .box 28 [.int .i64 0]), (1903, .box 60 [.int .i64 v0.1, .int .i64 v0.2.1, .sl (.sl (.int .i64)) v0.2.2.1, .sl (.sl (.int .i64)) v0.2.2.2.1])] (by (simp only [go_sem, hb2, hb4, hb17]) <;> (repeat' with_reducible apply And.intro) <;> first | assumption | rfl | omega | (unfold maxLen; omega)) ?_
            refine athen_n ?_
            refine AW.ret ?_
            refine ablock_r ?_
            obtain rfl := Option.some.inj h
            exact rpost_ret rfl rfl [] [] [] rfl (by (simp only [go_sem, hb2, hb4, hb17]) <;> (repeat' with_reducible apply And.intro) <;> first | assumption | rfl | omega | (unfold maxLen; omega))
          · rw [if_neg (Bool.eq_false_iff.1 hb17)] at h
            refine AW.skip ?_
            refine ablock_n ?_
            obtain rfl := Option.some.inj h
            exact rpost_next rfl [] [] [] rfl (by (simp only [go_sem, hb2, hb4, hb17]) <;> (repeat' with_reducible apply And.intro) <;> first | assumption | rfl | omega | (unfold maxLen; omega))
        · cases x6 with
          | inl st1_2 =>
            try simp only at h
            refine ablock_n ?_
            refine athen_n ?_
            exact AW.weaken (Wk.le [] [] [] rfl (by (simp only [go_sem, hb2, hb4]) <;> (repeat' with_reducible apply And.intro) <;> first | assumption | rfl | omega | (unfold maxLen; omega)) (by (simp only [go_sem, hb2, hb4]) <;> (repeat' with_reducible apply And.intro) <;> first | assumption | rfl | omega | (unfold maxLen; omega))) (hk_spec_Reads_k1 () h)
          | inr _ =>
            try simp only at h
            refine ablock_r ?_
            refine athen_r ?_
            obtain rfl := Option.some.inj h
            exact ⟨rfl, [], [], [], rfl, (by (simp only [go_sem, hb2, hb4]) <;> (repeat' with_reducible apply And.intro) <;> first | assumption | rfl | omega | (unfold maxLen; omega))⟩

end Go.Proofs.Ytmcgmlcfogdioaa
