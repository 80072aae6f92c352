/-
  Made by wip/tool/dc.py out of the print of the program: contracts.
-/
import Derived.Test.YtcijihofjcfpoabWp
import Derived.Test.YtcijihofjcfpoabTb3
import Derived.Test.YtcijihofjcfpoabXjc1
import Derived.Test.YtcijihofjcfpoabXjc2
import Derived.Test.YtcijihofjcfpoabXjc3
namespace Go.Proofs.Ytcijihofjcfpoab
open Go.RowKit

set_option linter.unusedSimpArgs false
set_option linter.unusedVariables false
set_option linter.constructorNameAsVariable false

set_option maxRecDepth 100000 in
set_option maxHeartbeats 2000000 in
theorem ic_weave_ties_class_1F (slf : ∀ (S R : Type), (List Int) → ((El T59)) → ((List Int) → S → Option (Step S R)) → S → Option (Sum S R)) (ic_slf : ∀ {S R : Type} (a1 : List Int) (a2 : (El T59)) (yl : (List Int) → S → Option (Step S R)) (s0 : S) {r : Sum S R}, slf S R a1 a2 yl s0 = some r → IC Try.prog 97 [(1000, .box 25 [.sl (.int .i64) a1]), (1001, .box 59 (cellsX T59 a2))] [.bp 1000 0, .bp 1001 0] (fun (y : (List Int)) => [.sl (.int .i64) y]) yl s0 r) {S R : Type} (a1 : List Int) (a2 : (El T59)) (yl : (List Int) → S → Option (Step S R)) (s0 : S) {r : Sum S R} (h : weave_ties_class_1F slf S R a1 a2 yl s0 = some r) : IC Try.prog 97 [(1000, .box 25 [.sl (.int .i64) a1]), (1001, .box 59 (cellsX T59 a2))] [.bp 1000 0, .bp 1001 0] (fun (y : (List Int)) => [.sl (.int .i64) y]) yl s0 r := by
  unfold weave_ties_class_1F at h
  refine IC.of_body Try.func97 rfl (by kernel_rfl) rfl (nt := 28) rfl (by decide) (by simp) ?_
  intro Γ Γx lp hΓ hΓx hY
  refine AW.seq ?_
  refine AW.ops ?_
  refine AO.allF tab_ok (by decide) [(1, .bp 1000 0), (2, .bp 1001 0), (3, .bp 3 0)] [(3, .box 97 [.fn (.yield lp) [] []]), (1000, .box 25 [.sl (.int .i64) a1]), (1001, .box 59 (cellsX T59 a2))] (by (simp only [go_sem]) <;> (repeat' with_reducible apply And.intro) <;> first | assumption | rfl | omega | (unfold maxLen; omega)) ?_
  refine athen_n ?_
  refine AW.seq ?_
  refine AW.seq ?_
  refine AW.ops ?_
  refine AO.allF tab_ok (by decide) [(1, .bp 1000 0), (2, .bp 1001 0), (3, .bp 3 0), (9, .bool (decide ((a1.length : Int) = 0)))] [(3, .box 97 [.fn (.yield lp) [] []]), (1000, .box 25 [.sl (.int .i64) a1]), (1001, .box 59 (cellsX T59 a2))] (by (simp only [go_sem]) <;> (repeat' with_reducible apply And.intro) <;> first | assumption | rfl | omega | (unfold maxLen; omega)) ?_
  refine athen_n ?_
  refine AW.cond (b := (decide ((a1.length : Int) = 0))) rfl (fun hb1 => ?_) (fun hb1 => ?_)
  · rw [if_pos hb1] at h
    refine AW.seq ?_
    refine AW.ops ?_
    refine AO.segF tab_ok 1 (by decide) [(10, .fn (.yield lp) [] [])] [(1000, .box 25 [.sl (.int .i64) a1]), (1001, .box 59 (cellsX T59 a2))] (by (simp only [go_sem, hb1]) <;> (repeat' with_reducible apply And.intro) <;> first | assumption | rfl | omega | (unfold maxLen; omega)) ?_
    obtain ⟨x2, hx3, h⟩ := Option.bind_eq_some_iff.1 h
    refine yield_op rfl rfl rfl (by decide) _ rfl hY hΓ hΓx [] [] (by (simp only [go_sem, hb1]) <;> (repeat' with_reducible apply And.intro) <;> first | assumption | rfl | omega | (unfold maxLen; omega)) hx3 ?_
    cases x2 with
    | next s =>
      try simp only at h
      refine AO.weaken (s' := ⟨fr [], hpGet [(1000, .box 25 [.sl (.int .i64) a1]), (1001, .box 59 (cellsX T59 a2))], (Γ s)⟩) (Wk.to (by (simp only [go_sem, hb1]) <;> (repeat' with_reducible apply And.intro) <;> first | assumption | rfl | omega | (unfold maxLen; omega))) ?_
      refine AO.allF tab_ok (by decide) [] [(1000, .box 25 [.sl (.int .i64) a1]), (1001, .box 59 (cellsX T59 a2))] (by (simp only [go_sem, hb1]) <;> (repeat' with_reducible apply And.intro) <;> first | assumption | rfl | omega | (unfold maxLen; omega)) ?_
      refine athen_n ?_
      refine AW.ret ?_
      refine athen_r ?_
      obtain rfl := Option.some.inj h
      exact rfl
    | done e =>
      try simp only at h
      refine AO.weaken (s' := ⟨fr [], hpGet [(1000, .box 25 [.sl (.int .i64) a1]), (1001, .box 59 (cellsX T59 a2))], (Γx e)⟩) (Wk.to (by (simp only [go_sem, hb1]) <;> (repeat' with_reducible apply And.intro) <;> first | assumption | rfl | omega | (unfold maxLen; omega))) ?_
      refine AO.allF tab_ok (by decide) [] [(1000, .box 25 [.sl (.int .i64) a1]), (1001, .box 59 (cellsX T59 a2))] (by (simp only [go_sem, hb1]) <;> (repeat' with_reducible apply And.intro) <;> first | assumption | rfl | omega | (unfold maxLen; omega)) ?_
      refine athen_n ?_
      refine AW.ret ?_
      refine athen_r ?_
      obtain rfl := Option.some.inj h
      exact rfl
  · rw [if_neg (Bool.eq_false_iff.1 hb1)] at h
    refine AW.skip ?_
    refine athen_n ?_
    refine AW.seq ?_
    refine AW.ops ?_
    refine AO.segF tab_ok 2 (by decide) [(2, .bp 1001 0), (3, .bp 3 0), (12, .agg (cellsX T59 a2)), (13, .sl (.int .i64) a1)] [(3, .box 97 [.fn (.yield lp) [] []]), (1000, .box 25 [.sl (.int .i64) a1]), (1001, .box 59 (cellsX T59 a2))] (by (simp only [go_sem, hb1]) <;> (repeat' with_reducible apply And.intro) <;> first | assumption | rfl | omega | (unfold maxLen; omega)) ?_
    obtain ⟨v0, hv4, h⟩ := Option.bind_eq_some_iff.1 h
    refine AO.call tab_ok (by decide) rfl rfl rfl (fun _ h => h) [] [] (hc_weave_ties_starts a2 a1 hv4) rfl (by (simp only [go_sem, hb1]) <;> (repeat' with_reducible apply And.intro) <;> first | assumption | rfl | omega | (unfold maxLen; omega)) (by (simp only [go_sem, hb1]) <;> (repeat' with_reducible apply And.intro) <;> first | assumption | rfl | omega | (unfold maxLen; omega)) [(2, .bp 1001 0), (3, .bp 3 0), (14, .fn (.func 94) [] [.bp 24000 0, .bp 24001 0])] [(3, .box 97 [.fn (.yield lp) [] []]), (1000, .box 25 [.sl (.int .i64) a1]), (1001, .box 59 (cellsX T59 a2)), (24000, .box 59 (cellsX T59 a2)), (24001, .box 25 [.sl (.int .i64) a1])] (by (simp only [go_sem, hb1]) <;> (repeat' with_reducible apply And.intro) <;> first | assumption | rfl | omega | (unfold maxLen; omega)) ?_
    refine AO.allF tab_ok (by decide) [(2, .bp 1001 0), (3, .bp 3 0), (14, .fn (.func 94) [] [.bp 24000 0, .bp 24001 0])] [(3, .box 97 [.fn (.yield lp) [] []]), (1000, .box 25 [.sl (.int .i64) a1]), (1001, .box 59 (cellsX T59 a2)), (24000, .box 59 (cellsX T59 a2)), (24001, .box 25 [.sl (.int .i64) a1])] (by (simp only [go_sem, hb1]) <;> (repeat' with_reducible apply And.intro) <;> first | assumption | rfl | omega | (unfold maxLen; omega)) ?_
    refine athen_n ?_
    refine AW.block ?_
    obtain ⟨x5, hx6, h⟩ := Option.bind_eq_some_iff.1 h
    refine AW.weaken (s' := ⟨fr [(2, .bp 1001 0), (3, .bp 3 0), (14, .fn (.func 94) [] [.bp 24000 0, .bp 24001 0])], hpGet ([(24000, .box 59 (cellsX T59 a2)), (24001, .box 25 [.sl (.int .i64) a1])] ++ [(3, .box 97 [.fn (.yield lp) [] []]), (1000, .box 25 [.sl (.int .i64) a1]), (1001, .box 59 (cellsX T59 a2))]), (Γ s0)⟩) (Wk.le [] [] [] rfl (by (simp only [go_sem, hb1]) <;> (repeat' with_reducible apply And.intro) <;> first | assumption | rfl | omega | (unfold maxLen; omega)) (by (simp only [go_sem, hb1]) <;> (repeat' with_reducible apply And.intro) <;> first | assumption | rfl | omega | (unfold maxLen; omega))) ?_
    refine AW.rangeF (R := R) (l0 := [(2, .bp 1001 0), (3, .bp 3 0)]) (hI := [(24000, .box 59 (cellsX T59 a2)), (24001, .box 25 [.sl (.int .i64) a1])]) (h0 := fun (st1 : S) => [(3, .box 97 [.fn (.yield lp) [] []]), (1000, .box 25 [.sl (.int .i64) a1]), (1001, .box 59 (cellsX T59 a2))]) (gg := fun (st1 : S) => (Γ st1)) (hx0 := (fun (r1 : R) => [(3, .box 97 [.fn (.yield lp) [] []]), (1000, .box 25 [.sl (.int .i64) a1]), (1001, .box 59 (cellsX T59 a2))])) (gx := (fun (r1 : R) => (Γx r1))) (ex := (fun (r1 : R) => Exit.ret)) s0 [(24000, 1000), (24001, 1001)] [(1000, 24000), (1001, 24001)] [(3, 1900)] [(1900, 3)] (by decide) rfl (by first | exact (ic_weave_ties_starts_1 a2 a1 (weave_ties_class_1_y1 S R slf a2 yl) s0 hx6) | simpa only [go_sem] using (ic_weave_ties_starts_1 a2 a1 (weave_ties_class_1_y1 S R slf a2 yl) s0 hx6)) (by (simp only [go_sem, hb1]) <;> (repeat' with_reducible apply And.intro) <;> first | assumption | rfl | omega | (unfold maxLen; omega)) rfl rfl rfl (fun _ => rfl) rfl (fun _ => rfl) rfl (fun _ => rfl) (fun _ => rfl) (fun _ => rfl) (fun _ => rfl) rfl (fun _ _ => by first | rfl | (exact (hΓ _).trans (hΓ _).symm) | (exact (hΓx _).trans (hΓ _).symm)) (fun _ _ => by first | rfl | (exact (hΓ _).trans (hΓ _).symm) | (exact (hΓx _).trans (hΓ _).symm)) ?_ ?_
    · intro lpy1 y1 st1 x7 h
      unfold weave_ties_class_1_y1 at h
      refine AW.weaken (s' := ⟨fr [(2, .bp 1001 0), (3, .bp 1900 0), (15, .int .i64 y1.1), (16, .sl (.int .i64) y1.2)], hpGet [(1000, .box 25 [.sl (.int .i64) a1]), (1001, .box 59 (cellsX T59 a2)), (1900, .box 97 [.fn (.yield lp) [] []])], (Γ st1)⟩) (Wk.to (by (simp only [go_sem, hb1]) <;> (repeat' with_reducible apply And.intro) <;> first | assumption | rfl | omega | (unfold maxLen; omega))) ?_
      refine AW.seq ?_
      refine AW.ops ?_
      refine AO.allF tab_ok (by decide) [(2, .bp 1001 0), (3, .bp 1900 0), (4, .bp 4 0), (16, .sl (.int .i64) y1.2)] [(4, .box 3 [.int .i64 y1.1]), (1000, .box 25 [.sl (.int .i64) a1]), (1001, .box 59 (cellsX T59 a2)), (1900, .box 97 [.fn (.yield lp) [] []])] (by (simp only [go_sem, hb1]) <;> (repeat' with_reducible apply And.intro) <;> first | assumption | rfl | omega | (unfold maxLen; omega)) ?_
      refine athen_n ?_
      refine AW.ops ?_
      refine AO.allF tab_ok (by decide) [(2, .bp 1001 0), (3, .bp 1900 0), (4, .bp 4 0), (5, .sl (.int .i64) y1.2)] [(4, .box 3 [.int .i64 y1.1]), (1000, .box 25 [.sl (.int .i64) a1]), (1001, .box 59 (cellsX T59 a2)), (1900, .box 97 [.fn (.yield lp) [] []])] (by (simp only [go_sem, hb1]) <;> (repeat' with_reducible apply And.intro) <;> first | assumption | rfl | omega | (unfold maxLen; omega)) ?_
      refine And.intro rfl ?_
      refine AW.block ?_
      refine AW.seq ?_
      refine AW.ops ?_
      refine AO.segF tab_ok 2 (by decide) [(2, .bp 1001 0), (3, .bp 1900 0), (4, .bp 4 0), (17, .agg (cellsX T59 a2)), (18, .sl (.int .i64) y1.2)] [(4, .box 3 [.int .i64 y1.1]), (1000, .box 25 [.sl (.int .i64) a1]), (1001, .box 59 (cellsX T59 a2)), (1900, .box 97 [.fn (.yield lp) [] []])] (by (simp only [go_sem, hb1]) <;> (repeat' with_reducible apply And.intro) <;> first | assumption | rfl | omega | (unfold maxLen; omega)) ?_
      obtain ⟨v0_2, hv8, h⟩ := Option.bind_eq_some_iff.1 h
      refine AO.call tab_ok (by decide) rfl rfl rfl (fun _ h => h) [] [] (hc_weave_ties_class a2 y1.2 hv8) rfl (by (simp only [go_sem, hb1]) <;> (repeat' with_reducible apply And.intro) <;> first | assumption | rfl | omega | (unfold maxLen; omega)) (by (simp only [go_sem, hb1]) <;> (repeat' with_reducible apply And.intro) <;> first | assumption | rfl | omega | (unfold maxLen; omega)) [(2, .bp 1001 0), (3, .bp 1900 0), (4, .bp 4 0), (19, .fn (.func 97) [] [.bp 29000 0, .bp 29001 0])] [(4, .box 3 [.int .i64 y1.1]), (1000, .box 25 [.sl (.int .i64) a1]), (1001, .box 59 (cellsX T59 a2)), (1900, .box 97 [.fn (.yield lp) [] []]), (29000, .box 25 [.sl (.int .i64) y1.2]), (29001, .box 59 (cellsX T59 a2))] (by (simp only [go_sem, hb1]) <;> (repeat' with_reducible apply And.intro) <;> first | assumption | rfl | omega | (unfold maxLen; omega)) ?_
      refine AO.allF tab_ok (by decide) [(2, .bp 1001 0), (3, .bp 1900 0), (4, .bp 4 0), (19, .fn (.func 97) [] [.bp 29000 0, .bp 29001 0])] [(4, .box 3 [.int .i64 y1.1]), (1000, .box 25 [.sl (.int .i64) a1]), (1001, .box 59 (cellsX T59 a2)), (1900, .box 97 [.fn (.yield lp) [] []]), (29000, .box 25 [.sl (.int .i64) y1.2]), (29001, .box 59 (cellsX T59 a2))] (by (simp only [go_sem, hb1]) <;> (repeat' with_reducible apply And.intro) <;> first | assumption | rfl | omega | (unfold maxLen; omega)) ?_
      refine athen_n ?_
      refine AW.block ?_
      obtain ⟨x9, hx10, h⟩ := Option.bind_eq_some_iff.1 h
      refine AW.weaken (s' := ⟨fr [(2, .bp 1001 0), (3, .bp 1900 0), (4, .bp 4 0), (19, .fn (.func 97) [] [.bp 29000 0, .bp 29001 0])], hpGet ([(29000, .box 25 [.sl (.int .i64) y1.2]), (29001, .box 59 (cellsX T59 a2))] ++ [(4, .box 3 [.int .i64 y1.1]), (1000, .box 25 [.sl (.int .i64) a1]), (1001, .box 59 (cellsX T59 a2)), (1900, .box 97 [.fn (.yield lp) [] []])]), (Γ st1)⟩) (Wk.le [] [] [] rfl (by (simp only [go_sem, hb1]) <;> (repeat' with_reducible apply And.intro) <;> first | assumption | rfl | omega | (unfold maxLen; omega)) (by (simp only [go_sem, hb1]) <;> (repeat' with_reducible apply And.intro) <;> first | assumption | rfl | omega | (unfold maxLen; omega))) ?_
      refine AW.rangeF (R := R) (l0 := [(2, .bp 1001 0), (3, .bp 1900 0), (4, .bp 4 0)]) (hI := [(29000, .box 25 [.sl (.int .i64) y1.2]), (29001, .box 59 (cellsX T59 a2))]) (h0 := fun (st2 : S) => [(4, .box 3 [.int .i64 y1.1]), (1000, .box 25 [.sl (.int .i64) a1]), (1001, .box 59 (cellsX T59 a2)), (1900, .box 97 [.fn (.yield lp) [] []])]) (gg := fun (st2 : S) => (Γ st2)) (hx0 := (fun (r2 : R) => [(4, .box 3 [.int .i64 y1.1]), (1000, .box 25 [.sl (.int .i64) a1]), (1001, .box 59 (cellsX T59 a2)), (1900, .box 97 [.fn (.yield lp) [] []])])) (gx := (fun (r2 : R) => (Γx r2))) (ex := (fun (r2 : R) => Exit.ret)) st1 [(29000, 1000), (29001, 1001)] [(1000, 29000), (1001, 29001)] [(4, 1901)] [(1901, 4)] (by decide) rfl (by first | exact (ic_slf y1.2 a2 (weave_ties_class_1_y2 S R yl y1) st1 hx10) | simpa only [go_sem] using (ic_slf y1.2 a2 (weave_ties_class_1_y2 S R yl y1) st1 hx10)) (by (simp only [go_sem, hb1]) <;> (repeat' with_reducible apply And.intro) <;> first | assumption | rfl | omega | (unfold maxLen; omega)) rfl rfl rfl (fun _ => rfl) rfl (fun _ => rfl) rfl (fun _ => rfl) (fun _ => rfl) (fun _ => rfl) (fun _ => rfl) rfl (fun _ _ => by first | rfl | (exact (hΓ _).trans (hΓ _).symm) | (exact (hΓx _).trans (hΓ _).symm)) (fun _ _ => by first | rfl | (exact (hΓ _).trans (hΓ _).symm) | (exact (hΓx _).trans (hΓ _).symm)) ?_ ?_
      · intro lpy2 y2 st2 x11 h
        unfold weave_ties_class_1_y2 at h
        refine AW.weaken (s' := ⟨fr [(2, .bp 1001 0), (3, .bp 1900 0), (4, .bp 1901 0), (20, .sl (.int .i64) y2)], hpGet [(1000, .box 25 [.sl (.int .i64) a1]), (1001, .box 59 (cellsX T59 a2)), (1900, .box 97 [.fn (.yield lp) [] []]), (1901, .box 3 [.int .i64 y1.1])], (Γ st2)⟩) (Wk.to (by (simp only [go_sem, hb1]) <;> (repeat' with_reducible apply And.intro) <;> first | assumption | rfl | omega | (unfold maxLen; omega))) ?_
        refine AW.ops ?_
        refine AO.allF tab_ok (by decide) [(2, .bp 1001 0), (3, .bp 1900 0), (4, .bp 1901 0), (6, .sl (.int .i64) y2)] [(1000, .box 25 [.sl (.int .i64) a1]), (1001, .box 59 (cellsX T59 a2)), (1900, .box 97 [.fn (.yield lp) [] []]), (1901, .box 3 [.int .i64 y1.1])] (by (simp only [go_sem, hb1]) <;> (repeat' with_reducible apply And.intro) <;> first | assumption | rfl | omega | (unfold maxLen; omega)) ?_
        refine And.intro rfl ?_
        refine AW.block ?_
        refine AW.seq ?_
        refine AW.drawTail tab_ok mixed_ok 5 [(2, [23]), (4, [23, 25])] [(0, [1900]), (3, [])] (by decide) (by kernel_rfl) (by kernel_rfl) (by decide) ?_
        dsimp only [List.take_succ_cons, List.take_zero]
        obtain ⟨c13, h⟩ := ck_some.1 h
        refine adops_cut 5 (fun K' hK12 => ?_)
        try dsimp only [List.drop_succ_cons, List.drop_zero, List.take_succ_cons, List.take_zero]
        simp only [go_sem, hb1]
        repeat (with_reducible refine And.intro (by first | assumption | rfl | omega | trivial | (unfold maxLen; omega)) ?_)
        refine hK12 _ ?_
        refine adops_nil ?_
        refine AO.weaken (s' := ⟨fr [(2, .bp 1001 0), (3, .bp 1900 0), (4, .bp 1901 0), (21, .fn (.yield lp) [] []), (25, .own 25)], hpGet [(25, .arr 3 (.int .i64) (y1.1 :: y2)), (1000, .box 25 [.sl (.int .i64) a1]), (1001, .box 59 (cellsX T59 a2)), (1900, .box 97 [.fn (.yield lp) [] []]), (1901, .box 3 [.int .i64 y1.1])], (Γ st2)⟩) (Wk.to (by (simp only [go_sem, hb1]) <;> (repeat' with_reducible apply And.intro) <;> first | assumption | rfl | omega | (unfold maxLen; omega))) ?_
        obtain ⟨x14, hx15, h⟩ := Option.bind_eq_some_iff.1 h
        refine yield_op rfl rfl rfl (by decide) _ rfl hY hΓ hΓx (y1.1 :: y2) [25] (by (simp only [go_sem, hb1]) <;> (repeat' with_reducible apply And.intro) <;> first | assumption | rfl | omega | (unfold maxLen; omega)) hx15 ?_
        cases x14 with
        | next s_2 =>
          try simp only at h
          refine AO.weaken (s' := ⟨fr [(2, .bp 1001 0), (3, .bp 1900 0), (4, .bp 1901 0), (26, .bool true)], hpGet [(1000, .box 25 [.sl (.int .i64) a1]), (1001, .box 59 (cellsX T59 a2)), (1900, .box 97 [.fn (.yield lp) [] []]), (1901, .box 3 [.int .i64 y1.1])], (Γ s_2)⟩) (Wk.to (by (simp only [go_sem, hb1]) <;> (repeat' with_reducible apply And.intro) <;> first | assumption | rfl | omega | (unfold maxLen; omega))) ?_
          refine AO.allF tab_ok (by decide) [(2, .bp 1001 0), (3, .bp 1900 0), (4, .bp 1901 0), (27, .bool false)] [(1000, .box 25 [.sl (.int .i64) a1]), (1001, .box 59 (cellsX T59 a2)), (1900, .box 97 [.fn (.yield lp) [] []]), (1901, .box 3 [.int .i64 y1.1])] (by (simp only [go_sem, hb1]) <;> (repeat' with_reducible apply And.intro) <;> first | assumption | rfl | omega | (unfold maxLen; omega)) ?_
          refine athen_n ?_
          refine AW.cond (b := false) rfl (fun hb16 => by cases hb16) (fun _ => ?_)
          refine AW.skip ?_
          refine ablock_n ?_
          obtain rfl := Option.some.inj h
          exact rpost_next rfl [] [] [] rfl (by (simp only [go_sem, hb1]) <;> (repeat' with_reducible apply And.intro) <;> first | assumption | rfl | omega | (unfold maxLen; omega))
        | done e_2 =>
          try simp only at h
          refine AO.weaken (s' := ⟨fr [(2, .bp 1001 0), (3, .bp 1900 0), (4, .bp 1901 0), (26, .bool false)], hpGet [(1000, .box 25 [.sl (.int .i64) a1]), (1001, .box 59 (cellsX T59 a2)), (1900, .box 97 [.fn (.yield lp) [] []]), (1901, .box 3 [.int .i64 y1.1])], (Γx e_2)⟩) (Wk.to (by (simp only [go_sem, hb1]) <;> (repeat' with_reducible apply And.intro) <;> first | assumption | rfl | omega | (unfold maxLen; omega))) ?_
          refine AO.allF tab_ok (by decide) [(2, .bp 1001 0), (3, .bp 1900 0), (4, .bp 1901 0), (27, .bool true)] [(1000, .box 25 [.sl (.int .i64) a1]), (1001, .box 59 (cellsX T59 a2)), (1900, .box 97 [.fn (.yield lp) [] []]), (1901, .box 3 [.int .i64 y1.1])] (by (simp only [go_sem, hb1]) <;> (repeat' with_reducible apply And.intro) <;> first | assumption | rfl | omega | (unfold maxLen; omega)) ?_
          refine athen_n ?_
          refine AW.cond (b := true) rfl (fun _ => ?_) (fun hb17 => by cases hb17)
          refine AW.ret ?_
          refine ablock_r ?_
          obtain rfl := Option.some.inj h
          exact rpost_ret rfl rfl [] [] [] rfl (by (simp only [go_sem, hb1]) <;> (repeat' with_reducible apply And.intro) <;> first | assumption | rfl | omega | (unfold maxLen; omega))
      · cases x9 with
        | inl st2_2 =>
          try simp only at h
          refine ablock_n ?_
          refine ablock_n ?_
          obtain rfl := Option.some.inj h
          exact rpost_next rfl [] [] [] rfl (by (simp only [go_sem, hb1]) <;> (repeat' with_reducible apply And.intro) <;> first | assumption | rfl | omega | (unfold maxLen; omega))
        | inr r2 =>
          try simp only at h
          refine ablock_r ?_
          refine ablock_r ?_
          obtain rfl := Option.some.inj h
          exact rpost_ret rfl rfl [] [] [] rfl (by (simp only [go_sem, hb1]) <;> (repeat' with_reducible apply And.intro) <;> first | assumption | rfl | omega | (unfold maxLen; omega))
    · cases x5 with
      | inl st1_2 =>
        try simp only at h
        refine ablock_n ?_
        obtain rfl := Option.some.inj h
        exact rfl
      | inr r1 =>
        try simp only at h
        refine ablock_r ?_
        obtain rfl := Option.some.inj h
        exact rfl

theorem ic_weave_ties_class_1 : ∀ (n : Nat) {S R : Type} (a1 : List Int) (a2 : (El T59)) (yl : (List Int) → S → Option (Step S R)) (s0 : S) {r : Sum S R}, weave_ties_class_1 n S R a1 a2 yl s0 = some r → IC Try.prog 97 [(1000, .box 25 [.sl (.int .i64) a1]), (1001, .box 59 (cellsX T59 a2))] [.bp 1000 0, .bp 1001 0] (fun (y : (List Int)) => [.sl (.int .i64) y]) yl s0 r := by
  intro n
  induction n with
  | zero => intro S R a1 a2 yl s0 r h; cases h
  | succ n ih => intro S R a1 a2 yl s0 r h; exact ic_weave_ties_class_1F (weave_ties_class_1 n) ih a1 a2 yl s0 h

set_option maxRecDepth 100000 in
set_option maxHeartbeats 2000000 in
theorem hc_weave_ties_first (t : (El T59)) (w : List Int) {r : (List Int)} (h : weave_ties_first t w = some r) : HC Try.prog 70 [] [.agg (cellsX T59 t), .sl (.int .i64) w] [] (.sl (.int .i64) r) := by
  unfold weave_ties_first at h
  refine HC.of_body tab_ok (res := [.cell 4 25]) Try.func70 rfl (by kernel_rfl) rfl (nt := 11) rfl (by decide) (by simp) ?_
  refine AW.seq ?_
  refine AW.ops ?_
  refine AO.allF tab_ok (by decide) [(1, .sl (.int .i64) w), (2, .bp 2 0), (4, .bp 4 0)] [(2, .box 59 (cellsX T59 t)), (4, .box 25 [.cv (.slice none 0 0)])] (by (simp only [go_sem]) <;> (repeat' with_reducible apply And.intro) <;> first | assumption | rfl | omega | (unfold maxLen; omega)) ?_
  refine athen_n ?_
  refine AW.have1 (fun _ : Unit => weave_ties_first_k1 = some r) (fun _ => ⟨fr [(4, .bp 4 0)], hpGet [(4, .box 25 [.cv (.slice none 0 0)])], gt⟩) (fun _ h => ?_) (fun hk_weave_ties_first_k1 => ?_)
  · unfold weave_ties_first_k1 at h
    refine AW.seq ?_
    refine AW.ops ?_
    refine AO.allF tab_ok (by decide) [(4, .bp 4 0)] [(4, .box 25 [.cv (.slice none 0 0)])] (by (simp only [go_sem]) <;> (repeat' with_reducible apply And.intro) <;> first | assumption | rfl | omega | (unfold maxLen; omega)) ?_
    refine athen_n ?_
    refine AW.ret ?_
    obtain rfl := Option.some.inj h
    exact ⟨rfl, [], [], [], rfl, (by (simp only [go_sem]) <;> (repeat' with_reducible apply And.intro) <;> first | assumption | rfl | omega | (unfold maxLen; omega))⟩
  · refine AW.seq ?_
    refine AW.seq ?_
    refine AW.ops ?_
    refine AO.segF tab_ok 2 (by decide) [(4, .bp 4 0), (6, .agg (cellsX T59 t)), (7, .sl (.int .i64) w)] [(4, .box 25 [.cv (.slice none 0 0)])] (by (simp only [go_sem]) <;> (repeat' with_reducible apply And.intro) <;> first | assumption | rfl | omega | (unfold maxLen; omega)) ?_
    obtain ⟨v0, hv1, h⟩ := Option.bind_eq_some_iff.1 h
    refine AO.call tab_ok (by decide) rfl rfl rfl (fun _ h => h) [] [] (hc_weave_ties_class t w hv1) rfl (by (simp only [go_sem]) <;> (repeat' with_reducible apply And.intro) <;> first | assumption | rfl | omega | (unfold maxLen; omega)) (by (simp only [go_sem]) <;> (repeat' with_reducible apply And.intro) <;> first | assumption | rfl | omega | (unfold maxLen; omega)) [(4, .bp 4 0), (8, .fn (.func 97) [] [.bp 18000 0, .bp 18001 0])] [(4, .box 25 [.cv (.slice none 0 0)]), (18000, .box 25 [.sl (.int .i64) w]), (18001, .box 59 (cellsX T59 t))] (by (simp only [go_sem]) <;> (repeat' with_reducible apply And.intro) <;> first | assumption | rfl | omega | (unfold maxLen; omega)) ?_
    refine AO.allF tab_ok (by decide) [(4, .bp 4 0), (8, .fn (.func 97) [] [.bp 18000 0, .bp 18001 0])] [(4, .box 25 [.cv (.slice none 0 0)]), (18000, .box 25 [.sl (.int .i64) w]), (18001, .box 59 (cellsX T59 t))] (by (simp only [go_sem]) <;> (repeat' with_reducible apply And.intro) <;> first | assumption | rfl | omega | (unfold maxLen; omega)) ?_
    refine athen_n ?_
    refine AW.block ?_
    obtain ⟨x2, hx3, h⟩ := Option.bind_eq_some_iff.1 h
    refine AW.weaken (s' := ⟨fr [(4, .bp 4 0), (8, .fn (.func 97) [] [.bp 18000 0, .bp 18001 0])], hpGet ([(18000, .box 25 [.sl (.int .i64) w]), (18001, .box 59 (cellsX T59 t))] ++ [(4, .box 25 [.cv (.slice none 0 0)])]), gt⟩) (Wk.le [] [] [] rfl (by (simp only [go_sem]) <;> (repeat' with_reducible apply And.intro) <;> first | assumption | rfl | omega | (unfold maxLen; omega)) (by (simp only [go_sem]) <;> (repeat' with_reducible apply And.intro) <;> first | assumption | rfl | omega | (unfold maxLen; omega))) ?_
    refine AW.rangeF (R := (List Int)) (l0 := [(4, .bp 4 0)]) (hI := [(18000, .box 25 [.sl (.int .i64) w]), (18001, .box 59 (cellsX T59 t))]) (h0 := fun (st1 : Unit) => [(4, .box 25 [.cv (.slice none 0 0)])]) (gg := fun (st1 : Unit) => gt) (hx0 := (fun (r1 : (List Int)) => [(4, .box 25 [.sl (.int .i64) r1])])) (gx := (fun (r1 : (List Int)) => gt)) (ex := (fun (r1 : (List Int)) => Exit.ret)) () [(18000, 1000), (18001, 1001)] [(1000, 18000), (1001, 18001)] [(4, 1900)] [(1900, 4)] (by decide) rfl (by first | exact (ic_weave_ties_class_1 fuel w t (weave_ties_first_y1) () hx3) | simpa only [go_sem] using (ic_weave_ties_class_1 fuel w t (weave_ties_first_y1) () hx3)) (by (simp only [go_sem]) <;> (repeat' with_reducible apply And.intro) <;> first | assumption | rfl | omega | (unfold maxLen; omega)) rfl rfl rfl (fun _ => rfl) rfl (fun _ => rfl) rfl (fun _ => rfl) (fun _ => rfl) (fun _ => rfl) (fun _ => rfl) rfl (fun _ _ => by first | rfl | (exact (hΓ _).trans (hΓ _).symm) | (exact (hΓx _).trans (hΓ _).symm)) (fun _ _ => by first | rfl | (exact (hΓ _).trans (hΓ _).symm) | (exact (hΓx _).trans (hΓ _).symm)) ?_ ?_
    · intro lpy1 y1 st1 x4 h
      unfold weave_ties_first_y1 at h
      refine AW.weaken (s' := ⟨fr [(4, .bp 1900 0), (9, .sl (.int .i64) y1)], hpGet [(1900, .box 25 [.cv (.slice none 0 0)])], gt⟩) (Wk.to (by (simp only [go_sem]) <;> (repeat' with_reducible apply And.intro) <;> first | assumption | rfl | omega | (unfold maxLen; omega))) ?_
      refine AW.ops ?_
      refine AO.allF tab_ok (by decide) [(4, .bp 1900 0), (5, .sl (.int .i64) y1)] [(1900, .box 25 [.cv (.slice none 0 0)])] (by (simp only [go_sem]) <;> (repeat' with_reducible apply And.intro) <;> first | assumption | rfl | omega | (unfold maxLen; omega)) ?_
      refine And.intro rfl ?_
      refine AW.block ?_
      refine AW.seq ?_
      refine AW.ops ?_
      refine AO.allF tab_ok (by decide) [(4, .bp 1900 0)] [(1900, .box 25 [.sl (.int .i64) y1])] (by (simp only [go_sem]) <;> (repeat' with_reducible apply And.intro) <;> first | assumption | rfl | omega | (unfold maxLen; omega)) ?_
      refine athen_n ?_
      refine AW.ret ?_
      refine ablock_r ?_
      obtain rfl := Option.some.inj h
      exact rpost_ret rfl rfl [] [] [] rfl (by (simp only [go_sem]) <;> (repeat' with_reducible apply And.intro) <;> first | assumption | rfl | omega | (unfold maxLen; omega))
    · cases x2 with
      | inl st1_2 =>
        try simp only at h
        refine ablock_n ?_
        refine athen_n ?_
        exact AW.weaken (Wk.le [] [] [] rfl (by (simp only [go_sem]) <;> (repeat' with_reducible apply And.intro) <;> first | assumption | rfl | omega | (unfold maxLen; omega)) (by (simp only [go_sem]) <;> (repeat' with_reducible apply And.intro) <;> first | assumption | rfl | omega | (unfold maxLen; omega))) (hk_weave_ties_first_k1 () h)
      | inr r1 =>
        try simp only at h
        refine ablock_r ?_
        refine athen_r ?_
        obtain rfl := Option.some.inj h
        exact ⟨rfl, [], [], [], rfl, (by (simp only [go_sem]) <;> (repeat' with_reducible apply And.intro) <;> first | assumption | rfl | omega | (unfold maxLen; omega))⟩

set_option maxRecDepth 100000 in
set_option maxHeartbeats 2000000 in
theorem hc_slices_Equal (s1 : List Int) (s2 : List Int) {r : Bool} (h : slices_Equal s1 s2 = some r) : HC Try.prog 69 [] [.sl (.int .i64) s1, .sl (.int .i64) s2] [] (.bool r) := by
  unfold slices_Equal at h
  refine HC.of_body tab_ok (res := [.tmp 4]) Try.func69 rfl (by kernel_rfl) rfl (nt := 26) rfl (by decide) (by simp) ?_
  refine AW.seq ?_
  refine AW.ops ?_
  refine AO.allF tab_ok (by decide) [(0, .sl (.int .i64) s1), (1, .sl (.int .i64) s2)] [] (by (simp only [go_sem]) <;> (repeat' with_reducible apply And.intro) <;> first | assumption | rfl | omega | (unfold maxLen; omega)) ?_
  refine athen_n ?_
  refine AW.seq ?_
  refine AW.seq ?_
  refine AW.ops ?_
  refine AO.allF tab_ok (by decide) [(0, .sl (.int .i64) s1), (1, .sl (.int .i64) s2), (10, .bool (!(decide ((s1.length : Int) = (s2.length : Int)))))] [] (by (simp only [go_sem]) <;> (repeat' with_reducible apply And.intro) <;> first | assumption | rfl | omega | (unfold maxLen; omega)) ?_
  refine athen_n ?_
  refine AW.cond (b := (!(decide ((s1.length : Int) = (s2.length : Int))))) rfl (fun hb1 => ?_) (fun hb1 => ?_)
  · rw [if_pos hb1] at h
    refine AW.seq ?_
    refine AW.ops ?_
    refine AO.allF tab_ok (by decide) [(4, .bool false)] [] (by (simp only [go_sem, hb1]) <;> (repeat' with_reducible apply And.intro) <;> first | assumption | rfl | omega | (unfold maxLen; omega)) ?_
    refine athen_n ?_
    refine AW.ret ?_
    refine athen_r ?_
    obtain rfl := Option.some.inj h
    exact ⟨rfl, [], [], [], rfl, (by (simp only [go_sem, hb1]) <;> (repeat' with_reducible apply And.intro) <;> first | assumption | rfl | omega | (unfold maxLen; omega))⟩
  · rw [if_neg (Bool.eq_false_iff.1 hb1)] at h
    refine AW.skip ?_
    refine athen_n ?_
    refine AW.have1 (fun _ : Unit => slices_Equal_k1 = some r) (fun _ => ⟨fr [], hpGet [], gt⟩) (fun _ h => ?_) (fun hk_slices_Equal_k1 => ?_)
    · unfold slices_Equal_k1 at h
      refine AW.seq ?_
      refine AW.ops ?_
      refine AO.allF tab_ok (by decide) [(4, .bool true)] [] (by (simp only [go_sem, hb1]) <;> (repeat' with_reducible apply And.intro) <;> first | assumption | rfl | omega | (unfold maxLen; omega)) ?_
      refine athen_n ?_
      refine AW.ret ?_
      obtain rfl := Option.some.inj h
      exact ⟨rfl, [], [], [], rfl, (by (simp only [go_sem, hb1]) <;> (repeat' with_reducible apply And.intro) <;> first | assumption | rfl | omega | (unfold maxLen; omega))⟩
    · refine AW.seq ?_
      refine AW.seq ?_
      refine AW.ops ?_
      refine AO.allF tab_ok (by decide) [(0, .sl (.int .i64) s1), (1, .sl (.int .i64) s2), (12, .int .i64 (s1.length : Int)), (13, .int .i64 0)] [] (by (simp only [go_sem, hb1]) <;> (repeat' with_reducible apply And.intro) <;> first | assumption | rfl | omega | (unfold maxLen; omega)) ?_
      refine athen_n ?_
      refine AW.block ?_
      obtain ⟨rv6, hw2, ho3⟩ := Option.bind_eq_some_iff.1 h
      refine AW.loopO (slices_Equal_b1 s1 s2) (fun st1 => ⟨fr [(0, .sl (.int .i64) s1), (1, .sl (.int .i64) s2), (12, .int .i64 (s1.length : Int)), (13, .int .i64 st1)], hpGet [], gt⟩) 0 hw2 (Wk.le [] [] [] rfl (by (simp only [go_sem, hb1]) <;> (repeat' with_reducible apply And.intro) <;> first | assumption | rfl | omega | (unfold maxLen; omega)) (by (simp only [go_sem, hb1]) <;> (repeat' with_reducible apply And.intro) <;> first | assumption | rfl | omega | (unfold maxLen; omega))) ?_
      intro st1 x5 h hd4
      unfold slices_Equal_b1 at h
      refine AW.seq ?_
      refine AW.ops ?_
      refine AO.allF tab_ok (by decide) [(0, .sl (.int .i64) s1), (1, .sl (.int .i64) s2), (12, .int .i64 (s1.length : Int)), (13, .int .i64 st1), (14, .bool (decide (st1 < (s1.length : Int))))] [] (by (simp only [go_sem, hb1]) <;> (repeat' with_reducible apply And.intro) <;> first | assumption | rfl | omega | (unfold maxLen; omega)) ?_
      refine athen_n ?_
      refine AW.seq ?_
      refine AW.cond (b := (decide (st1 < (s1.length : Int)))) rfl (fun hb7 => ?_) (fun hb7 => ?_)
      · rw [if_pos hb7] at h
        refine AW.skip ?_
        refine athen_n ?_
        refine AW.seq ?_
        refine AW.block ?_
        refine AW.seq ?_
        refine AW.ops ?_
        refine AO.allF tab_ok (by decide) [(0, .sl (.int .i64) s1), (1, .sl (.int .i64) s2), (5, .int .i64 st1), (12, .int .i64 (s1.length : Int)), (13, .int .i64 st1)] [] (by (simp only [go_sem, hb1, hb7]) <;> (repeat' with_reducible apply And.intro) <;> first | assumption | rfl | omega | (unfold maxLen; omega)) ?_
        refine athen_n ?_
        refine AW.seq ?_
        refine AW.draw tab_ok mixed_ok [] [] (by decide) (by kernel_rfl) ?_
        obtain ⟨c9, h⟩ := ck_some.1 h
        obtain ⟨c10, h⟩ := ck_some.1 h
        refine adops_cut 6 (fun K' hK8 => ?_)
        try dsimp only [List.drop_succ_cons, List.drop_zero, List.take_succ_cons, List.take_zero]
        simp only [go_sem, hb1, hb7]
        repeat (with_reducible refine And.intro (by first | assumption | rfl | omega | trivial | (unfold maxLen; omega)) ?_)
        refine hK8 _ ?_
        obtain ⟨c12, h⟩ := ck_some.1 h
        obtain ⟨c13, h⟩ := ck_some.1 h
        refine adops_cut 3 (fun K' hK11 => ?_)
        try dsimp only [List.drop_succ_cons, List.drop_zero, List.take_succ_cons, List.take_zero]
        simp only [go_sem, hb1, hb7]
        repeat (with_reducible refine And.intro (by first | assumption | rfl | omega | trivial | (unfold maxLen; omega)) ?_)
        refine hK11 _ ?_
        refine adops_nil ?_
        refine athen_n ?_
        refine AW.weaken (s' := ⟨fr [(0, .sl (.int .i64) s1), (1, .sl (.int .i64) s2), (12, .int .i64 (s1.length : Int)), (13, .int .i64 st1), (24, .bool (!(decide ((s1.getD st1.toNat 0) = (s2.getD st1.toNat 0)))))], hpGet [], gt⟩) (Wk.to (by (simp only [go_sem, hb1, hb7]) <;> (repeat' with_reducible apply And.intro) <;> first | assumption | rfl | omega | (unfold maxLen; omega))) ?_
        refine AW.cond (b := (!(decide ((s1.getD st1.toNat 0) = (s2.getD st1.toNat 0))))) rfl (fun hb14 => ?_) (fun hb14 => ?_)
        · rw [if_pos hb14] at h
          refine AW.seq ?_
          refine AW.ops ?_
          refine AO.allF tab_ok (by decide) [(4, .bool false)] [] (by (simp only [go_sem, hb1, hb7, hb14]) <;> (repeat' with_reducible apply And.intro) <;> first | assumption | rfl | omega | (unfold maxLen; omega)) ?_
          refine athen_n ?_
          refine AW.ret ?_
          refine ablock_r ?_
          refine athen_r ?_
          obtain rfl := Option.some.inj h
          rw [← hd4 _ rfl] at ho3
          have h := ho3
          try simp only at h
          refine athen_r ?_
          refine ablock_r ?_
          refine athen_r ?_
          obtain rfl := Option.some.inj h
          exact ⟨rfl, [], [], [], rfl, (by (simp only [go_sem, hb1, hb7, hb14]) <;> (repeat' with_reducible apply And.intro) <;> first | assumption | rfl | omega | (unfold maxLen; omega))⟩
        · rw [if_neg (Bool.eq_false_iff.1 hb14)] at h
          refine AW.skip ?_
          refine ablock_n ?_
          refine athen_n ?_
          refine AW.ops ?_
          obtain ⟨c15, h⟩ := ck_some.1 h
          refine AO.allF tab_ok (by decide) [(0, .sl (.int .i64) s1), (1, .sl (.int .i64) s2), (12, .int .i64 (s1.length : Int)), (13, .int .i64 (st1 + 1))] [] (by (simp only [go_sem, hb1, hb7, hb14]) <;> (repeat' with_reducible apply And.intro) <;> first | assumption | rfl | omega | (unfold maxLen; omega)) ?_
          obtain rfl := Option.some.inj h
          exact ⟨_, rfl, Wk.le [] [] [] rfl (by (simp only [go_sem, hb1, hb7, hb14]) <;> (repeat' with_reducible apply And.intro) <;> first | assumption | rfl | omega | (unfold maxLen; omega)) (by (simp only [go_sem, hb1, hb7, hb14]) <;> (repeat' with_reducible apply And.intro) <;> first | assumption | rfl | omega | (unfold maxLen; omega))⟩
      · rw [if_neg (Bool.eq_false_iff.1 hb7)] at h
        refine AW.exit ?_
        refine athen_e ?_
        obtain rfl := Option.some.inj h
        rw [← hd4 _ rfl] at ho3
        have h := ho3
        try simp only at h
        refine athen_e ?_
        refine ablock_s ?_
        refine athen_n ?_
        exact AW.weaken (Wk.le [] [] [] rfl (by (simp only [go_sem, hb1, hb7]) <;> (repeat' with_reducible apply And.intro) <;> first | assumption | rfl | omega | (unfold maxLen; omega)) (by (simp only [go_sem, hb1, hb7]) <;> (repeat' with_reducible apply And.intro) <;> first | assumption | rfl | omega | (unfold maxLen; omega))) (hk_slices_Equal_k1 () h)

set_option maxRecDepth 100000 in
set_option maxHeartbeats 2000000 in
theorem hc_weave_Equal (l : Int × (List (Int × Int))) (w : List Int) (v0 : List Int) {r : Bool × Int} (h : weave_Equal l w v0 = some r) : HC Try.prog 26 [] [.agg [.int .i64 l.1, .sl (.pair (.int .i64) (.int .i64)) l.2], .sl (.int .i64) w, .sl (.int .i64) v0] [] (.tup [.bool r.1, .int .i64 r.2]) := by
  unfold weave_Equal at h
  refine HC.of_body tab_ok (res := [.tmp 6, .tmp 7]) Try.func26 rfl (by kernel_rfl) rfl (nt := 28) rfl (by decide) (by simp) ?_
  refine AW.seq ?_
  refine AW.ops ?_
  refine AO.allF tab_ok (by decide) [(1, .sl (.int .i64) w), (2, .sl (.int .i64) v0), (3, .bp 3 0)] [(3, .box 24 [.int .i64 l.1, .sl (.pair (.int .i64) (.int .i64)) l.2])] (by (simp only [go_sem]) <;> (repeat' with_reducible apply And.intro) <;> first | assumption | rfl | omega | (unfold maxLen; omega)) ?_
  refine athen_n ?_
  refine AW.seq ?_
  refine AW.ops ?_
  refine AO.segF tab_ok 4 (by decide) [(1, .sl (.int .i64) w), (2, .sl (.int .i64) v0), (11, .agg [.int .i64 l.1, .sl (.pair (.int .i64) (.int .i64)) l.2]), (14, .own 14)] [(14, .arr 25 (.sl (.int .i64)) [w, v0])] (by (simp only [go_sem]) <;> (repeat' with_reducible apply And.intro) <;> first | assumption | rfl | omega | (unfold maxLen; omega)) ?_
  obtain ⟨v0_2, hv1, h⟩ := Option.bind_eq_some_iff.1 h
  refine AO.call tab_ok (by decide) rfl rfl rfl (fun _ h => h) [14] [] (hc_weave_checked l [w, v0] hv1) rfl (by (simp only [go_sem]) <;> (repeat' with_reducible apply And.intro) <;> first | assumption | rfl | omega | (unfold maxLen; omega)) (by (simp only [go_sem]) <;> (repeat' with_reducible apply And.intro) <;> first | assumption | rfl | omega | (unfold maxLen; omega)) [(1, .sl (.int .i64) w), (2, .sl (.int .i64) v0), (15, .tup [.agg (cellsX T59 v0_2.1), .int .i64 v0_2.2])] [] (by (simp only [go_sem]) <;> (repeat' with_reducible apply And.intro) <;> first | assumption | rfl | omega | (unfold maxLen; omega)) ?_
  refine AO.allF tab_ok (by decide) [(1, .sl (.int .i64) w), (2, .sl (.int .i64) v0), (8, .bp 8 0), (9, .int .i64 v0_2.2)] [(8, .box 59 (cellsX T59 v0_2.1))] (by (simp only [go_sem]) <;> (repeat' with_reducible apply And.intro) <;> first | assumption | rfl | omega | (unfold maxLen; omega)) ?_
  refine athen_n ?_
  refine AW.seq ?_
  refine AW.seq ?_
  refine AW.ops ?_
  refine AO.allF tab_ok (by decide) [(1, .sl (.int .i64) w), (2, .sl (.int .i64) v0), (8, .bp 8 0), (9, .int .i64 v0_2.2), (19, .bool (!(decide (v0_2.2 = 0))))] [(8, .box 59 (cellsX T59 v0_2.1))] (by (simp only [go_sem]) <;> (repeat' with_reducible apply And.intro) <;> first | assumption | rfl | omega | (unfold maxLen; omega)) ?_
  refine athen_n ?_
  refine AW.cond (b := (!(decide (v0_2.2 = 0)))) rfl (fun hb2 => ?_) (fun hb2 => ?_)
  · rw [if_pos hb2] at h
    refine AW.seq ?_
    refine AW.ops ?_
    refine AO.allF tab_ok (by decide) [(6, .bool false), (7, .int .i64 v0_2.2)] [] (by (simp only [go_sem, hb2]) <;> (repeat' with_reducible apply And.intro) <;> first | assumption | rfl | omega | (unfold maxLen; omega)) ?_
    refine athen_n ?_
    refine AW.ret ?_
    refine athen_r ?_
    obtain rfl := Option.some.inj h
    exact ⟨rfl, [], [], [], rfl, (by (simp only [go_sem, hb2]) <;> (repeat' with_reducible apply And.intro) <;> first | assumption | rfl | omega | (unfold maxLen; omega))⟩
  · rw [if_neg (Bool.eq_false_iff.1 hb2)] at h
    refine AW.skip ?_
    refine athen_n ?_
    refine AW.seq ?_
    refine AW.draw tab_ok mixed_ok [] [] (by decide) (by kernel_rfl) ?_
    refine adops_cut 2 (fun K' hK3 => ?_)
    try dsimp only [List.drop_succ_cons, List.drop_zero, List.take_succ_cons, List.take_zero]
    simp only [go_sem, hb2]
    repeat (with_reducible refine And.intro (by first | assumption | rfl | omega | trivial | (unfold maxLen; omega)) ?_)
    refine hK3 _ ?_
    obtain ⟨v0_3, hv4, h⟩ := Option.bind_eq_some_iff.1 h
    refine adops.call (by first | trivial | rfl) rfl rfl rfl (fun _ h => h) [] [] (hc_weave_ties_first v0_2.1 w hv4) rfl (by (simp only [go_sem, hb2]) <;> (repeat' with_reducible apply And.intro) <;> first | assumption | rfl | omega | (unfold maxLen; omega)) (by (simp only [go_sem, hb2]) <;> (repeat' with_reducible apply And.intro) <;> first | assumption | rfl | omega | (unfold maxLen; omega)) rfl ?_
    refine adops_cut 2 (fun K' hK5 => ?_)
    try dsimp only [List.drop_succ_cons, List.drop_zero, List.take_succ_cons, List.take_zero]
    simp only [go_sem, hb2]
    repeat (with_reducible refine And.intro (by first | assumption | rfl | omega | trivial | (unfold maxLen; omega)) ?_)
    refine hK5 _ ?_
    obtain ⟨v0_4, hv6, h⟩ := Option.bind_eq_some_iff.1 h
    refine adops.call (by first | trivial | rfl) rfl rfl rfl (fun _ h => h) [] [] (hc_weave_ties_first v0_2.1 v0 hv6) rfl (by (simp only [go_sem, hb2]) <;> (repeat' with_reducible apply And.intro) <;> first | assumption | rfl | omega | (unfold maxLen; omega)) (by (simp only [go_sem, hb2]) <;> (repeat' with_reducible apply And.intro) <;> first | assumption | rfl | omega | (unfold maxLen; omega)) rfl ?_
    obtain ⟨v0_5, hv7, h⟩ := Option.bind_eq_some_iff.1 h
    refine adops.call (by first | trivial | rfl) rfl rfl rfl (fun _ h => h) [] [] (hc_slices_Equal v0_3 v0_4 hv7) rfl (by (simp only [go_sem, hb2]) <;> (repeat' with_reducible apply And.intro) <;> first | assumption | rfl | omega | (unfold maxLen; omega)) (by (simp only [go_sem, hb2]) <;> (repeat' with_reducible apply And.intro) <;> first | assumption | rfl | omega | (unfold maxLen; omega)) rfl ?_
    refine adops_cut 2 (fun K' hK8 => ?_)
    try dsimp only [List.drop_succ_cons, List.drop_zero, List.take_succ_cons, List.take_zero]
    simp only [go_sem, hb2]
    repeat (with_reducible refine And.intro (by first | assumption | rfl | omega | trivial | (unfold maxLen; omega)) ?_)
    refine hK8 _ ?_
    refine adops_nil ?_
    refine athen_n ?_
    refine AW.weaken (s' := ⟨fr [(6, .bool v0_5), (7, .int .i64 0)], hpGet [], gt⟩) (Wk.to (by (simp only [go_sem, hb2]) <;> (repeat' with_reducible apply And.intro) <;> first | assumption | rfl | omega | (unfold maxLen; omega))) ?_
    refine AW.ret ?_
    obtain rfl := Option.some.inj h
    exact ⟨rfl, [], [], [], rfl, (by (simp only [go_sem, hb2]) <;> (repeat' with_reducible apply And.intro) <;> first | assumption | rfl | omega | (unfold maxLen; omega))⟩

set_option maxRecDepth 100000 in
set_option maxHeartbeats 2000000 in
theorem hc_weave_ties_path (t : (El T59)) (from0 : List Int) (to0 : List Int) {r : (List Int) × Bool} (h : weave_ties_path t from0 to0 = some r) : HC Try.prog 72 [] [.agg (cellsX T59 t), .sl (.int .i64) from0, .sl (.int .i64) to0] [(2000, .arr 3 (.int .i64) r.1)] (.tup [.own 2000, .bool r.2]) := by
  unfold weave_ties_path at h
  refine HC.of_body tab_ok (res := [.tmp 6, .tmp 7]) Try.func72 rfl (by kernel_rfl) rfl (nt := 55) rfl (by decide) (by simp) ?_
  refine AW.seq ?_
  refine AW.ops ?_
  refine AO.allF tab_ok (by decide) [(1, .sl (.int .i64) from0), (2, .sl (.int .i64) to0), (3, .bp 3 0)] [(3, .box 59 (cellsX T59 t))] (by (simp only [go_sem]) <;> (repeat' with_reducible apply And.intro) <;> first | assumption | rfl | omega | (unfold maxLen; omega)) ?_
  refine athen_n ?_
  refine AW.seq ?_
  refine AW.seq ?_
  refine AW.ops ?_
  refine AO.allF tab_ok (by decide) [(1, .sl (.int .i64) from0), (2, .sl (.int .i64) to0), (3, .bp 3 0), (18, .bool (!(decide ((from0.length : Int) = (to0.length : Int)))))] [(3, .box 59 (cellsX T59 t))] (by (simp only [go_sem]) <;> (repeat' with_reducible apply And.intro) <;> first | assumption | rfl | omega | (unfold maxLen; omega)) ?_
  refine athen_n ?_
  refine AW.cond (b := (!(decide ((from0.length : Int) = (to0.length : Int))))) rfl (fun hb1 => ?_) (fun hb1 => ?_)
  · rw [if_pos hb1] at h
    refine AW.seq ?_
    refine AW.ops ?_
    refine AO.allF tab_ok (by decide) [(6, .cv (.slice none 0 0)), (7, .bool false)] [] (by (simp only [go_sem, hb1]) <;> (repeat' with_reducible apply And.intro) <;> first | assumption | rfl | omega | (unfold maxLen; omega)) ?_
    refine athen_n ?_
    refine AW.ret ?_
    refine athen_r ?_
    obtain rfl := Option.some.inj h
    exact ⟨rfl, [], [2000], [], rfl, (by (simp only [go_sem, hb1]) <;> (repeat' with_reducible apply And.intro) <;> first | assumption | rfl | omega | (unfold maxLen; omega))⟩
  · rw [if_neg (Bool.eq_false_iff.1 hb1)] at h
    refine AW.skip ?_
    refine athen_n ?_
    refine AW.seq ?_
    refine AW.ops ?_
    refine AO.segF tab_ok 1 (by decide) [(2, .sl (.int .i64) to0), (3, .bp 3 0), (19, .sl (.int .i64) from0)] [(3, .box 59 (cellsX T59 t))] (by (simp only [go_sem, hb1]) <;> (repeat' with_reducible apply And.intro) <;> first | assumption | rfl | omega | (unfold maxLen; omega)) ?_
    obtain ⟨v0, hv2, h⟩ := Option.bind_eq_some_iff.1 h
    refine AO.call tab_ok (by decide) rfl rfl rfl (fun _ h => h) [] [] (hc_slices_Clone from0 hv2) rfl (by (simp only [go_sem, hb1]) <;> (repeat' with_reducible apply And.intro) <;> first | assumption | rfl | omega | (unfold maxLen; omega)) (by (simp only [go_sem, hb1]) <;> (repeat' with_reducible apply And.intro) <;> first | assumption | rfl | omega | (unfold maxLen; omega)) [(2, .sl (.int .i64) to0), (3, .bp 3 0), (20, .own 30000)] [(3, .box 59 (cellsX T59 t)), (30000, .arr 3 (.int .i64) v0)] (by (simp only [go_sem, hb1]) <;> (repeat' with_reducible apply And.intro) <;> first | assumption | rfl | omega | (unfold maxLen; omega)) ?_
    refine AO.allF tab_ok (by decide) [(2, .sl (.int .i64) to0), (3, .bp 3 0), (8, .own 30000)] [(3, .box 59 (cellsX T59 t)), (30000, .arr 3 (.int .i64) v0)] (by (simp only [go_sem, hb1]) <;> (repeat' with_reducible apply And.intro) <;> first | assumption | rfl | omega | (unfold maxLen; omega)) ?_
    refine athen_n ?_
    refine AW.seq ?_
    refine AW.ops ?_
    refine AO.allF tab_ok (by decide) [(2, .sl (.int .i64) to0), (3, .bp 3 0), (8, .own 30000), (9, .cv (.slice none 0 0))] [(3, .box 59 (cellsX T59 t)), (30000, .arr 3 (.int .i64) v0)] (by (simp only [go_sem, hb1]) <;> (repeat' with_reducible apply And.intro) <;> first | assumption | rfl | omega | (unfold maxLen; omega)) ?_
    refine athen_n ?_
    refine AW.have1 (fun b2_2 : (List Int) => weave_ties_path_k1 b2_2 = some r) (fun b2_2 => ⟨fr [(9, .own 52)], hpGet [(52, .arr 3 (.int .i64) b2_2)], gt⟩) (fun b2_2 h => ?_) (fun hk_weave_ties_path_k1 => ?_)
    · unfold weave_ties_path_k1 at h
      refine AW.seq ?_
      refine AW.ops ?_
      refine AO.allF tab_ok (by decide) [(6, .own 52), (7, .bool true)] [(52, .arr 3 (.int .i64) b2_2)] (by (simp only [go_sem, hb1]) <;> (repeat' with_reducible apply And.intro) <;> first | assumption | rfl | omega | (unfold maxLen; omega)) ?_
      refine athen_n ?_
      refine AW.ret ?_
      obtain rfl := Option.some.inj h
      exact ⟨rfl, [], [], [(2000, 52)], rfl, (by (simp only [go_sem, hb1]) <;> (repeat' with_reducible apply And.intro) <;> first | assumption | rfl | omega | (unfold maxLen; omega))⟩
    · refine AW.seq ?_
      refine AW.seq ?_
      refine AW.ops ?_
      refine AO.allF tab_ok (by decide) [(3, .bp 3 0), (8, .own 30000), (9, .cv (.slice none 0 0)), (21, .sl (.int .i64) to0), (22, .int .i64 (to0.length : Int)), (23, .int .i64 0)] [(3, .box 59 (cellsX T59 t)), (30000, .arr 3 (.int .i64) v0)] (by (simp only [go_sem, hb1]) <;> (repeat' with_reducible apply And.intro) <;> first | assumption | rfl | omega | (unfold maxLen; omega)) ?_
      refine athen_n ?_
      refine AW.block ?_
      obtain ⟨rv7, hw3, ho4⟩ := Option.bind_eq_some_iff.1 h
      refine AW.loopO (weave_ties_path_b1 t to0) (fun st1 => ⟨fr [(3, .bp 3 0), (8, .own 30000), (9, .own 52), (21, .sl (.int .i64) to0), (22, .int .i64 (to0.length : Int)), (23, .int .i64 st1.2.2)], hpGet [(3, .box 59 (cellsX T59 t)), (52, .arr 3 (.int .i64) st1.2.1), (30000, .arr 3 (.int .i64) st1.1)], gt⟩) (v0, [], 0) hw3 (Wk.le [] [52] [] rfl (by (simp only [go_sem, hb1]) <;> (repeat' with_reducible apply And.intro) <;> first | assumption | rfl | omega | (unfold maxLen; omega)) (by (simp only [go_sem, hb1]) <;> (repeat' with_reducible apply And.intro) <;> first | assumption | rfl | omega | (unfold maxLen; omega))) ?_
      intro st1 x6 h hd5
      unfold weave_ties_path_b1 at h
      refine AW.seq ?_
      refine AW.ops ?_
      refine AO.allF tab_ok (by decide) [(3, .bp 3 0), (8, .own 30000), (9, .own 52), (21, .sl (.int .i64) to0), (22, .int .i64 (to0.length : Int)), (23, .int .i64 st1.2.2), (24, .bool (decide (st1.2.2 < (to0.length : Int))))] [(3, .box 59 (cellsX T59 t)), (52, .arr 3 (.int .i64) st1.2.1), (30000, .arr 3 (.int .i64) st1.1)] (by (simp only [go_sem, hb1]) <;> (repeat' with_reducible apply And.intro) <;> first | assumption | rfl | omega | (unfold maxLen; omega)) ?_
      refine athen_n ?_
      refine AW.seq ?_
      refine AW.cond (b := (decide (st1.2.2 < (to0.length : Int)))) rfl (fun hb8 => ?_) (fun hb8 => ?_)
      · rw [if_pos hb8] at h
        refine AW.skip ?_
        refine athen_n ?_
        refine AW.have1 (fun b2 : (List Int) × (List Int) => weave_ties_path_k2 st1 b2 = some x6) (fun b2 => ⟨fr [(3, .bp 3 0), (8, .own 30000), (9, .own 52), (21, .sl (.int .i64) to0), (22, .int .i64 (to0.length : Int)), (23, .int .i64 st1.2.2)], hpGet [(3, .box 59 (cellsX T59 t)), (52, .arr 3 (.int .i64) b2.2), (30000, .arr 3 (.int .i64) b2.1)], gt⟩) (fun b2 h => ?_) (fun hk_weave_ties_path_k2 => ?_)
        · unfold weave_ties_path_k2 at h
          refine AW.ops ?_
          obtain ⟨c9, h⟩ := ck_some.1 h
          refine AO.allF tab_ok (by decide) [(3, .bp 3 0), (8, .own 30000), (9, .own 52), (21, .sl (.int .i64) to0), (22, .int .i64 (to0.length : Int)), (23, .int .i64 (st1.2.2 + 1))] [(3, .box 59 (cellsX T59 t)), (52, .arr 3 (.int .i64) b2.2), (30000, .arr 3 (.int .i64) b2.1)] (by (simp only [go_sem, hb1, hb8]) <;> (repeat' with_reducible apply And.intro) <;> first | assumption | rfl | omega | (unfold maxLen; omega)) ?_
          obtain rfl := Option.some.inj h
          exact ⟨_, rfl, Wk.le [] [] [] rfl (by (simp only [go_sem, hb1, hb8]) <;> (repeat' with_reducible apply And.intro) <;> first | assumption | rfl | omega | (unfold maxLen; omega)) (by (simp only [go_sem, hb1, hb8]) <;> (repeat' with_reducible apply And.intro) <;> first | assumption | rfl | omega | (unfold maxLen; omega))⟩
        · refine AW.seq ?_
          refine AW.block ?_
          refine AW.seq ?_
          refine AW.ops ?_
          obtain ⟨c10, h⟩ := ck_some.1 h
          obtain ⟨c11, h⟩ := ck_some.1 h
          refine AO.allF tab_ok (by decide) [(3, .bp 3 0), (8, .own 30000), (9, .own 52), (10, .int .i64 st1.2.2), (11, .int .i64 (to0.getD st1.2.2.toNat 0)), (21, .sl (.int .i64) to0), (22, .int .i64 (to0.length : Int)), (23, .int .i64 st1.2.2)] [(3, .box 59 (cellsX T59 t)), (52, .arr 3 (.int .i64) st1.2.1), (30000, .arr 3 (.int .i64) st1.1)] (by (simp only [go_sem, hb1, hb8]) <;> (repeat' with_reducible apply And.intro) <;> first | assumption | rfl | omega | (unfold maxLen; omega)) ?_
          refine athen_n ?_
          refine AW.seq ?_
          refine AW.ops ?_
          refine AO.segF tab_ok 2 (by decide) [(3, .bp 3 0), (8, .own 30000), (9, .own 52), (10, .int .i64 st1.2.2), (11, .int .i64 (to0.getD st1.2.2.toNat 0)), (21, .sl (.int .i64) to0), (22, .int .i64 (to0.length : Int)), (23, .int .i64 st1.2.2), (28, .own 30000), (29, .int .i64 st1.2.2)] [(3, .box 59 (cellsX T59 t)), (52, .arr 3 (.int .i64) st1.2.1), (30000, .arr 3 (.int .i64) st1.1)] (by (simp only [go_sem, hb1, hb8]) <;> (repeat' with_reducible apply And.intro) <;> first | assumption | rfl | omega | (unfold maxLen; omega)) ?_
          obtain ⟨c12, h⟩ := ck_some.1 h
          obtain ⟨c13, h⟩ := ck_some.1 h
          refine AO.sliceView tab_ok (by decide) rfl rfl tab_25 rfl tab_3 rfl rfl rfl (st1.2.2) ((st1.1.length : Int)) (by first | assumption | omega | (simp only [go_sem, hb1, hb8]) <;> (repeat' with_reducible apply And.intro) <;> first | assumption | rfl | omega | (unfold maxLen; omega)) (by first | assumption | omega | (simp only [go_sem, hb1, hb8]) <;> (repeat' with_reducible apply And.intro) <;> first | assumption | rfl | omega | (unfold maxLen; omega)) (by first | assumption | omega | (simp only [go_sem, hb1, hb8]) <;> (repeat' with_reducible apply And.intro) <;> first | assumption | rfl | omega | (unfold maxLen; omega)) (.inr ⟨_, _, rfl, rfl⟩) (.inl ⟨rfl, rfl⟩) ?_
          refine AO.weaken (s' := ⟨fr [(3, .bp 3 0), (8, .own 30000), (9, .own 52), (10, .int .i64 st1.2.2), (11, .int .i64 (to0.getD st1.2.2.toNat 0)), (21, .sl (.int .i64) to0), (22, .int .i64 (to0.length : Int)), (23, .int .i64 st1.2.2), (30, .vw 30000 1 st1.2.2.toNat ((st1.1.length : Int) - st1.2.2).toNat)], hpGet [(3, .box 59 (cellsX T59 t)), (52, .arr 3 (.int .i64) st1.2.1), (30000, .arr 3 (.int .i64) st1.1)], gt⟩) (Wk.to (by (simp only [go_sem, hb1, hb8]) <;> (repeat' with_reducible apply And.intro) <;> first | assumption | rfl | omega | (unfold maxLen; omega))) ?_
          refine AO.segF tab_ok 1 (by decide) [(3, .bp 3 0), (8, .own 30000), (9, .own 52), (10, .int .i64 st1.2.2), (21, .sl (.int .i64) to0), (22, .int .i64 (to0.length : Int)), (23, .int .i64 st1.2.2), (30, .vw 30000 1 st1.2.2.toNat ((st1.1.length : Int) - st1.2.2).toNat), (31, .int .i64 (to0.getD st1.2.2.toNat 0))] [(3, .box 59 (cellsX T59 t)), (52, .arr 3 (.int .i64) st1.2.1), (30000, .arr 3 (.int .i64) st1.1)] (by (simp only [go_sem, hb1, hb8]) <;> (repeat' with_reducible apply And.intro) <;> first | assumption | rfl | omega | (unfold maxLen; omega)) ?_
          obtain ⟨v0_2, hv14, h⟩ := Option.bind_eq_some_iff.1 h
          refine AO.call tab_ok (by decide) rfl rfl rfl (fun _ h => h) [30000] [] (hc_slices_Index ((st1.1.drop st1.2.2.toNat).take ((st1.1.length : Int) - st1.2.2).toNat) (to0.getD st1.2.2.toNat 0) hv14) rfl (by (simp only [go_sem, hb1, hb8]) <;> (repeat' with_reducible apply And.intro) <;> first | assumption | rfl | omega | (unfold maxLen; omega)) (by (simp only [go_sem, hb1, hb8]) <;> (repeat' with_reducible apply And.intro) <;> first | assumption | rfl | omega | (unfold maxLen; omega)) [(3, .bp 3 0), (8, .own 30000), (9, .own 52), (10, .int .i64 st1.2.2), (21, .sl (.int .i64) to0), (22, .int .i64 (to0.length : Int)), (23, .int .i64 st1.2.2), (32, .int .i64 v0_2)] [(3, .box 59 (cellsX T59 t)), (52, .arr 3 (.int .i64) st1.2.1), (30000, .arr 3 (.int .i64) st1.1)] (by (simp only [go_sem, hb1, hb8]) <;> (repeat' with_reducible apply And.intro) <;> first | assumption | rfl | omega | (unfold maxLen; omega)) ?_
          refine AO.allF tab_ok (by decide) [(3, .bp 3 0), (8, .own 30000), (9, .own 52), (10, .int .i64 st1.2.2), (12, .int .i64 v0_2), (21, .sl (.int .i64) to0), (22, .int .i64 (to0.length : Int)), (23, .int .i64 st1.2.2)] [(3, .box 59 (cellsX T59 t)), (52, .arr 3 (.int .i64) st1.2.1), (30000, .arr 3 (.int .i64) st1.1)] (by (simp only [go_sem, hb1, hb8]) <;> (repeat' with_reducible apply And.intro) <;> first | assumption | rfl | omega | (unfold maxLen; omega)) ?_
          refine athen_n ?_
          refine AW.seq ?_
          refine AW.seq ?_
          refine AW.ops ?_
          refine AO.allF tab_ok (by decide) [(3, .bp 3 0), (8, .own 30000), (9, .own 52), (10, .int .i64 st1.2.2), (12, .int .i64 v0_2), (21, .sl (.int .i64) to0), (22, .int .i64 (to0.length : Int)), (23, .int .i64 st1.2.2), (34, .bool (decide (v0_2 < 0)))] [(3, .box 59 (cellsX T59 t)), (52, .arr 3 (.int .i64) st1.2.1), (30000, .arr 3 (.int .i64) st1.1)] (by (simp only [go_sem, hb1, hb8]) <;> (repeat' with_reducible apply And.intro) <;> first | assumption | rfl | omega | (unfold maxLen; omega)) ?_
          refine athen_n ?_
          refine AW.cond (b := (decide (v0_2 < 0))) rfl (fun hb15 => ?_) (fun hb15 => ?_)
          · rw [if_pos hb15] at h
            refine AW.seq ?_
            refine AW.ops ?_
            refine AO.allF tab_ok (by decide) [(6, .cv (.slice none 0 0)), (7, .bool false)] [] (by (simp only [go_sem, hb1, hb8, hb15]) <;> (repeat' with_reducible apply And.intro) <;> first | assumption | rfl | omega | (unfold maxLen; omega)) ?_
            refine athen_n ?_
            refine AW.ret ?_
            refine athen_r ?_
            refine ablock_r ?_
            refine athen_r ?_
            obtain rfl := Option.some.inj h
            rw [← hd5 _ rfl] at ho4
            have h := ho4
            try simp only at h
            refine athen_r ?_
            refine ablock_r ?_
            refine athen_r ?_
            obtain rfl := Option.some.inj h
            exact ⟨rfl, [], [2000], [], rfl, (by (simp only [go_sem, hb1, hb8, hb15]) <;> (repeat' with_reducible apply And.intro) <;> first | assumption | rfl | omega | (unfold maxLen; omega))⟩
          · rw [if_neg (Bool.eq_false_iff.1 hb15)] at h
            refine AW.skip ?_
            refine athen_n ?_
            refine AW.seq ?_
            refine AW.ops ?_
            obtain ⟨c16, h⟩ := ck_some.1 h
            obtain ⟨c17, h⟩ := ck_some.1 h
            refine AO.allF tab_ok (by decide) [(3, .bp 3 0), (8, .own 30000), (9, .own 52), (10, .int .i64 st1.2.2), (13, .int .i64 ((st1.2.2 + v0_2) - 1)), (21, .sl (.int .i64) to0), (22, .int .i64 (to0.length : Int)), (23, .int .i64 st1.2.2)] [(3, .box 59 (cellsX T59 t)), (52, .arr 3 (.int .i64) st1.2.1), (30000, .arr 3 (.int .i64) st1.1)] (by (simp only [go_sem, hb1, hb8, hb15]) <;> (repeat' with_reducible apply And.intro) <;> first | assumption | rfl | omega | (unfold maxLen; omega)) ?_
            refine athen_n ?_
            refine AW.block ?_
            obtain ⟨rv22, hw18, ho19⟩ := Option.bind_eq_some_iff.1 h
            refine AW.loopO (weave_ties_path_b2 t st1) (fun st2 => ⟨fr [(3, .bp 3 0), (8, .own 30000), (9, .own 52), (10, .int .i64 st1.2.2), (13, .int .i64 st2.2.2), (21, .sl (.int .i64) to0), (22, .int .i64 (to0.length : Int)), (23, .int .i64 st1.2.2)], hpGet [(3, .box 59 (cellsX T59 t)), (52, .arr 3 (.int .i64) st2.2.1), (30000, .arr 3 (.int .i64) st2.1)], gt⟩) (st1.1, st1.2.1, ((st1.2.2 + v0_2) - 1)) hw18 (Wk.le [] [] [] rfl (by (simp only [go_sem, hb1, hb8, hb15]) <;> (repeat' with_reducible apply And.intro) <;> first | assumption | rfl | omega | (unfold maxLen; omega)) (by (simp only [go_sem, hb1, hb8, hb15]) <;> (repeat' with_reducible apply And.intro) <;> first | assumption | rfl | omega | (unfold maxLen; omega))) ?_
            intro st2 x21 h hd20
            unfold weave_ties_path_b2 at h
            refine AW.seq ?_
            refine AW.seq ?_
            refine AW.ops ?_
            refine AO.allF tab_ok (by decide) [(3, .bp 3 0), (8, .own 30000), (9, .own 52), (10, .int .i64 st1.2.2), (13, .int .i64 st2.2.2), (21, .sl (.int .i64) to0), (22, .int .i64 (to0.length : Int)), (23, .int .i64 st1.2.2), (41, .bool (decide (st1.2.2 ≤ st2.2.2)))] [(3, .box 59 (cellsX T59 t)), (52, .arr 3 (.int .i64) st2.2.1), (30000, .arr 3 (.int .i64) st2.1)] (by (simp only [go_sem, hb1, hb8, hb15]) <;> (repeat' with_reducible apply And.intro) <;> first | assumption | rfl | omega | (unfold maxLen; omega)) ?_
            refine athen_n ?_
            refine AW.cond (b := (decide (st1.2.2 ≤ st2.2.2))) rfl (fun hb23 => ?_) (fun hb23 => ?_)
            · rw [if_pos hb23] at h
              refine AW.skip ?_
              refine athen_n ?_
              refine AW.seq ?_
              refine AW.block ?_
              refine AW.seq ?_
              refine AW.seq ?_
              refine AW.ops ?_
              refine AO.segF tab_ok 3 (by decide) [(3, .bp 3 0), (8, .own 30000), (9, .own 52), (10, .int .i64 st1.2.2), (13, .int .i64 st2.2.2), (21, .sl (.int .i64) to0), (22, .int .i64 (to0.length : Int)), (23, .int .i64 st1.2.2), (44, .agg (cellsX T59 t)), (45, .own 30000), (46, .int .i64 st2.2.2)] [(3, .box 59 (cellsX T59 t)), (52, .arr 3 (.int .i64) st2.2.1), (30000, .arr 3 (.int .i64) st2.1)] (by (simp only [go_sem, hb1, hb8, hb15, hb23]) <;> (repeat' with_reducible apply And.intro) <;> first | assumption | rfl | omega | (unfold maxLen; omega)) ?_
              obtain ⟨v0_3, hv24, h⟩ := Option.bind_eq_some_iff.1 h
              refine AO.call tab_ok (by decide) rfl rfl rfl (fun _ h => h) [] [(1000, 30000)] (hc_weave_ties_exchange t st2.2.2 st2.1 hv24) rfl (by (simp only [go_sem, hb1, hb8, hb15, hb23]) <;> (repeat' with_reducible apply And.intro) <;> first | assumption | rfl | omega | (unfold maxLen; omega)) (by (simp only [go_sem, hb1, hb8, hb15, hb23]) <;> (repeat' with_reducible apply And.intro) <;> first | assumption | rfl | omega | (unfold maxLen; omega)) [(3, .bp 3 0), (8, .own 30000), (9, .own 52), (10, .int .i64 st1.2.2), (13, .int .i64 st2.2.2), (21, .sl (.int .i64) to0), (22, .int .i64 (to0.length : Int)), (23, .int .i64 st1.2.2), (47, .bool v0_3.1)] [(3, .box 59 (cellsX T59 t)), (52, .arr 3 (.int .i64) st2.2.1), (30000, .arr 3 (.int .i64) v0_3.2)] (by (simp only [go_sem, hb1, hb8, hb15, hb23]) <;> (repeat' with_reducible apply And.intro) <;> first | assumption | rfl | omega | (unfold maxLen; omega)) ?_
              refine AO.allF tab_ok (by decide) [(3, .bp 3 0), (8, .own 30000), (9, .own 52), (10, .int .i64 st1.2.2), (13, .int .i64 st2.2.2), (21, .sl (.int .i64) to0), (22, .int .i64 (to0.length : Int)), (23, .int .i64 st1.2.2), (48, .bool (!v0_3.1))] [(3, .box 59 (cellsX T59 t)), (52, .arr 3 (.int .i64) st2.2.1), (30000, .arr 3 (.int .i64) v0_3.2)] (by (simp only [go_sem, hb1, hb8, hb15, hb23]) <;> (repeat' with_reducible apply And.intro) <;> first | assumption | rfl | omega | (unfold maxLen; omega)) ?_
              refine athen_n ?_
              refine AW.cond (b := (!v0_3.1)) rfl (fun hb25 => ?_) (fun hb25 => ?_)
              · rw [if_pos hb25] at h
                refine AW.seq ?_
                refine AW.ops ?_
                refine AO.allF tab_ok (by decide) [(6, .cv (.slice none 0 0)), (7, .bool false)] [] (by (simp only [go_sem, hb1, hb8, hb15, hb23, hb25]) <;> (repeat' with_reducible apply And.intro) <;> first | assumption | rfl | omega | (unfold maxLen; omega)) ?_
                refine athen_n ?_
                refine AW.ret ?_
                refine athen_r ?_
                refine ablock_r ?_
                refine athen_r ?_
                obtain rfl := Option.some.inj h
                rw [← hd20 _ rfl] at ho19
                have h := ho19
                try simp only at h
                refine athen_r ?_
                refine ablock_r ?_
                refine ablock_r ?_
                refine athen_r ?_
                obtain rfl := Option.some.inj h
                rw [← hd5 _ rfl] at ho4
                have h := ho4
                try simp only at h
                refine athen_r ?_
                refine ablock_r ?_
                refine athen_r ?_
                obtain rfl := Option.some.inj h
                exact ⟨rfl, [], [2000], [], rfl, (by (simp only [go_sem, hb1, hb8, hb15, hb23, hb25]) <;> (repeat' with_reducible apply And.intro) <;> first | assumption | rfl | omega | (unfold maxLen; omega))⟩
              · rw [if_neg (Bool.eq_false_iff.1 hb25)] at h
                refine AW.skip ?_
                refine athen_n ?_
                refine AW.ops ?_
                obtain ⟨c26, h⟩ := ck_some.1 h
                refine AO.allF tab_ok (by decide) [(3, .bp 3 0), (8, .own 30000), (9, .own 52), (10, .int .i64 st1.2.2), (13, .int .i64 st2.2.2), (21, .sl (.int .i64) to0), (22, .int .i64 (to0.length : Int)), (23, .int .i64 st1.2.2)] [(3, .box 59 (cellsX T59 t)), (52, .arr 3 (.int .i64) (st2.2.1 ++ [st2.2.2])), (30000, .arr 3 (.int .i64) v0_3.2)] (by (simp only [go_sem, hb1, hb8, hb15, hb23, hb25]) <;> (repeat' with_reducible apply And.intro) <;> first | assumption | rfl | omega | (unfold maxLen; omega)) ?_
                refine ablock_n ?_
                refine athen_n ?_
                refine AW.ops ?_
                obtain ⟨c27, h⟩ := ck_some.1 h
                refine AO.allF tab_ok (by decide) [(3, .bp 3 0), (8, .own 30000), (9, .own 52), (10, .int .i64 st1.2.2), (13, .int .i64 (st2.2.2 - 1)), (21, .sl (.int .i64) to0), (22, .int .i64 (to0.length : Int)), (23, .int .i64 st1.2.2)] [(3, .box 59 (cellsX T59 t)), (52, .arr 3 (.int .i64) (st2.2.1 ++ [st2.2.2])), (30000, .arr 3 (.int .i64) v0_3.2)] (by (simp only [go_sem, hb1, hb8, hb15, hb23, hb25]) <;> (repeat' with_reducible apply And.intro) <;> first | assumption | rfl | omega | (unfold maxLen; omega)) ?_
                obtain rfl := Option.some.inj h
                exact ⟨_, rfl, Wk.le [] [] [] rfl (by (simp only [go_sem, hb1, hb8, hb15, hb23, hb25]) <;> (repeat' with_reducible apply And.intro) <;> first | assumption | rfl | omega | (unfold maxLen; omega)) (by (simp only [go_sem, hb1, hb8, hb15, hb23, hb25]) <;> (repeat' with_reducible apply And.intro) <;> first | assumption | rfl | omega | (unfold maxLen; omega))⟩
            · rw [if_neg (Bool.eq_false_iff.1 hb23)] at h
              refine AW.exit ?_
              refine athen_e ?_
              obtain rfl := Option.some.inj h
              rw [← hd20 _ rfl] at ho19
              have h := ho19
              try simp only at h
              refine athen_e ?_
              refine ablock_s ?_
              refine ablock_n ?_
              refine athen_n ?_
              exact AW.weaken (Wk.le [] [] [] rfl (by (simp only [go_sem, hb1, hb8, hb15, hb23]) <;> (repeat' with_reducible apply And.intro) <;> first | assumption | rfl | omega | (unfold maxLen; omega)) (by (simp only [go_sem, hb1, hb8, hb15, hb23]) <;> (repeat' with_reducible apply And.intro) <;> first | assumption | rfl | omega | (unfold maxLen; omega))) (hk_weave_ties_path_k2 _ h)
      · rw [if_neg (Bool.eq_false_iff.1 hb8)] at h
        refine AW.exit ?_
        refine athen_e ?_
        obtain rfl := Option.some.inj h
        rw [← hd5 _ rfl] at ho4
        have h := ho4
        try simp only at h
        refine athen_e ?_
        refine ablock_s ?_
        refine athen_n ?_
        exact AW.weaken (Wk.le [] [] [] rfl (by (simp only [go_sem, hb1, hb8]) <;> (repeat' with_reducible apply And.intro) <;> first | assumption | rfl | omega | (unfold maxLen; omega)) (by (simp only [go_sem, hb1, hb8]) <;> (repeat' with_reducible apply And.intro) <;> first | assumption | rfl | omega | (unfold maxLen; omega))) (hk_weave_ties_path_k1 _ h)

set_option maxRecDepth 100000 in
set_option maxHeartbeats 2000000 in
theorem hc_weave_Path (l : Int × (List (Int × Int))) (w : List Int) (v0 : List Int) {r : (List Int) × Int} (h : weave_Path l w v0 = some r) : HC Try.prog 28 [] [.agg [.int .i64 l.1, .sl (.pair (.int .i64) (.int .i64)) l.2], .sl (.int .i64) w, .sl (.int .i64) v0] [(2000, .arr 3 (.int .i64) r.1)] (.tup [.own 2000, .int .i64 r.2]) := by
  unfold weave_Path at h
  refine HC.of_body tab_ok (res := [.tmp 6, .tmp 7]) Try.func28 rfl (by kernel_rfl) rfl (nt := 33) rfl (by decide) (by simp) ?_
  refine AW.seq ?_
  refine AW.ops ?_
  refine AO.allF tab_ok (by decide) [(1, .sl (.int .i64) w), (2, .sl (.int .i64) v0), (3, .bp 3 0)] [(3, .box 24 [.int .i64 l.1, .sl (.pair (.int .i64) (.int .i64)) l.2])] (by (simp only [go_sem]) <;> (repeat' with_reducible apply And.intro) <;> first | assumption | rfl | omega | (unfold maxLen; omega)) ?_
  refine athen_n ?_
  refine AW.seq ?_
  refine AW.ops ?_
  refine AO.segF tab_ok 4 (by decide) [(1, .sl (.int .i64) w), (2, .sl (.int .i64) v0), (13, .agg [.int .i64 l.1, .sl (.pair (.int .i64) (.int .i64)) l.2]), (16, .own 16)] [(16, .arr 25 (.sl (.int .i64)) [w, v0])] (by (simp only [go_sem]) <;> (repeat' with_reducible apply And.intro) <;> first | assumption | rfl | omega | (unfold maxLen; omega)) ?_
  obtain ⟨v0_2, hv1, h⟩ := Option.bind_eq_some_iff.1 h
  refine AO.call tab_ok (by decide) rfl rfl rfl (fun _ h => h) [16] [] (hc_weave_checked l [w, v0] hv1) rfl (by (simp only [go_sem]) <;> (repeat' with_reducible apply And.intro) <;> first | assumption | rfl | omega | (unfold maxLen; omega)) (by (simp only [go_sem]) <;> (repeat' with_reducible apply And.intro) <;> first | assumption | rfl | omega | (unfold maxLen; omega)) [(1, .sl (.int .i64) w), (2, .sl (.int .i64) v0), (17, .tup [.agg (cellsX T59 v0_2.1), .int .i64 v0_2.2])] [] (by (simp only [go_sem]) <;> (repeat' with_reducible apply And.intro) <;> first | assumption | rfl | omega | (unfold maxLen; omega)) ?_
  refine AO.allF tab_ok (by decide) [(1, .sl (.int .i64) w), (2, .sl (.int .i64) v0), (8, .bp 8 0), (9, .int .i64 v0_2.2)] [(8, .box 59 (cellsX T59 v0_2.1))] (by (simp only [go_sem]) <;> (repeat' with_reducible apply And.intro) <;> first | assumption | rfl | omega | (unfold maxLen; omega)) ?_
  refine athen_n ?_
  refine AW.seq ?_
  refine AW.seq ?_
  refine AW.ops ?_
  refine AO.allF tab_ok (by decide) [(1, .sl (.int .i64) w), (2, .sl (.int .i64) v0), (8, .bp 8 0), (9, .int .i64 v0_2.2), (21, .bool (!(decide (v0_2.2 = 0))))] [(8, .box 59 (cellsX T59 v0_2.1))] (by (simp only [go_sem]) <;> (repeat' with_reducible apply And.intro) <;> first | assumption | rfl | omega | (unfold maxLen; omega)) ?_
  refine athen_n ?_
  refine AW.cond (b := (!(decide (v0_2.2 = 0)))) rfl (fun hb2 => ?_) (fun hb2 => ?_)
  · rw [if_pos hb2] at h
    refine AW.seq ?_
    refine AW.ops ?_
    refine AO.allF tab_ok (by decide) [(6, .cv (.slice none 0 0)), (7, .int .i64 v0_2.2)] [] (by (simp only [go_sem, hb2]) <;> (repeat' with_reducible apply And.intro) <;> first | assumption | rfl | omega | (unfold maxLen; omega)) ?_
    refine athen_n ?_
    refine AW.ret ?_
    refine athen_r ?_
    obtain rfl := Option.some.inj h
    exact ⟨rfl, [], [2000], [], rfl, (by (simp only [go_sem, hb2]) <;> (repeat' with_reducible apply And.intro) <;> first | assumption | rfl | omega | (unfold maxLen; omega))⟩
  · rw [if_neg (Bool.eq_false_iff.1 hb2)] at h
    refine AW.skip ?_
    refine athen_n ?_
    refine AW.seq ?_
    refine AW.ops ?_
    refine AO.segF tab_ok 3 (by decide) [(24, .agg (cellsX T59 v0_2.1)), (25, .sl (.int .i64) w), (26, .sl (.int .i64) v0)] [] (by (simp only [go_sem, hb2]) <;> (repeat' with_reducible apply And.intro) <;> first | assumption | rfl | omega | (unfold maxLen; omega)) ?_
    obtain ⟨v0_3, hv3, h⟩ := Option.bind_eq_some_iff.1 h
    refine AO.call tab_ok (by decide) rfl rfl rfl (fun _ h => h) [] [] (hc_weave_ties_path v0_2.1 w v0 hv3) rfl (by (simp only [go_sem, hb2]) <;> (repeat' with_reducible apply And.intro) <;> first | assumption | rfl | omega | (unfold maxLen; omega)) (by (simp only [go_sem, hb2]) <;> (repeat' with_reducible apply And.intro) <;> first | assumption | rfl | omega | (unfold maxLen; omega)) [(27, .tup [.own 37000, .bool v0_3.2])] [(37000, .arr 3 (.int .i64) v0_3.1)] (by (simp only [go_sem, hb2]) <;> (repeat' with_reducible apply And.intro) <;> first | assumption | rfl | omega | (unfold maxLen; omega)) ?_
    refine AO.allF tab_ok (by decide) [(10, .own 37000), (11, .bool v0_3.2)] [(37000, .arr 3 (.int .i64) v0_3.1)] (by (simp only [go_sem, hb2]) <;> (repeat' with_reducible apply And.intro) <;> first | assumption | rfl | omega | (unfold maxLen; omega)) ?_
    refine athen_n ?_
    refine AW.seq ?_
    refine AW.seq ?_
    refine AW.ops ?_
    refine AO.allF tab_ok (by decide) [(10, .own 37000), (31, .bool (!v0_3.2))] [(37000, .arr 3 (.int .i64) v0_3.1)] (by (simp only [go_sem, hb2]) <;> (repeat' with_reducible apply And.intro) <;> first | assumption | rfl | omega | (unfold maxLen; omega)) ?_
    refine athen_n ?_
    refine AW.cond (b := (!v0_3.2)) rfl (fun hb4 => ?_) (fun hb4 => ?_)
    · rw [if_pos hb4] at h
      refine AW.seq ?_
      refine AW.ops ?_
      refine AO.allF tab_ok (by decide) [(6, .cv (.slice none 0 0)), (7, .int .i64 5)] [] (by (simp only [go_sem, hb2, hb4]) <;> (repeat' with_reducible apply And.intro) <;> first | assumption | rfl | omega | (unfold maxLen; omega)) ?_
      refine athen_n ?_
      refine AW.ret ?_
      refine athen_r ?_
      obtain rfl := Option.some.inj h
      exact ⟨rfl, [], [2000], [], rfl, (by (simp only [go_sem, hb2, hb4]) <;> (repeat' with_reducible apply And.intro) <;> first | assumption | rfl | omega | (unfold maxLen; omega))⟩
    · rw [if_neg (Bool.eq_false_iff.1 hb4)] at h
      refine AW.skip ?_
      refine athen_n ?_
      refine AW.seq ?_
      refine AW.ops ?_
      refine AO.allF tab_ok (by decide) [(6, .own 37000), (7, .int .i64 0)] [(37000, .arr 3 (.int .i64) v0_3.1)] (by (simp only [go_sem, hb2, hb4]) <;> (repeat' with_reducible apply And.intro) <;> first | assumption | rfl | omega | (unfold maxLen; omega)) ?_
      refine athen_n ?_
      refine AW.ret ?_
      obtain rfl := Option.some.inj h
      exact ⟨rfl, [], [], [(2000, 37000)], rfl, (by (simp only [go_sem, hb2, hb4]) <;> (repeat' with_reducible apply And.intro) <;> first | assumption | rfl | omega | (unfold maxLen; omega))⟩

set_option maxRecDepth 100000 in
set_option maxHeartbeats 2000000 in
theorem hc_weave_IsPath (l : Int × (List (Int × Int))) (w : List Int) (v0 : List Int) (path : List Int) {r : Bool × Int} (h : weave_IsPath l w v0 path = some r) : HC Try.prog 30 [] [.agg [.int .i64 l.1, .sl (.pair (.int .i64) (.int .i64)) l.2], .sl (.int .i64) w, .sl (.int .i64) v0, .sl (.int .i64) path] [] (.tup [.bool r.1, .int .i64 r.2]) := by
  unfold weave_IsPath at h
  refine HC.of_body tab_ok (res := [.tmp 8, .tmp 9]) Try.func30 rfl (by kernel_rfl) rfl (nt := 46) rfl (by decide) (by simp) ?_
  refine AW.seq ?_
  refine AW.ops ?_
  refine AO.allF tab_ok (by decide) [(1, .sl (.int .i64) w), (2, .sl (.int .i64) v0), (3, .sl (.int .i64) path), (4, .bp 4 0)] [(4, .box 24 [.int .i64 l.1, .sl (.pair (.int .i64) (.int .i64)) l.2])] (by (simp only [go_sem]) <;> (repeat' with_reducible apply And.intro) <;> first | assumption | rfl | omega | (unfold maxLen; omega)) ?_
  refine athen_n ?_
  refine AW.seq ?_
  refine AW.ops ?_
  refine AO.segF tab_ok 4 (by decide) [(1, .sl (.int .i64) w), (2, .sl (.int .i64) v0), (3, .sl (.int .i64) path), (16, .agg [.int .i64 l.1, .sl (.pair (.int .i64) (.int .i64)) l.2]), (19, .own 19)] [(19, .arr 25 (.sl (.int .i64)) [w, v0])] (by (simp only [go_sem]) <;> (repeat' with_reducible apply And.intro) <;> first | assumption | rfl | omega | (unfold maxLen; omega)) ?_
  obtain ⟨v0_2, hv1, h⟩ := Option.bind_eq_some_iff.1 h
  refine AO.call tab_ok (by decide) rfl rfl rfl (fun _ h => h) [19] [] (hc_weave_checked l [w, v0] hv1) rfl (by (simp only [go_sem]) <;> (repeat' with_reducible apply And.intro) <;> first | assumption | rfl | omega | (unfold maxLen; omega)) (by (simp only [go_sem]) <;> (repeat' with_reducible apply And.intro) <;> first | assumption | rfl | omega | (unfold maxLen; omega)) [(1, .sl (.int .i64) w), (2, .sl (.int .i64) v0), (3, .sl (.int .i64) path), (20, .tup [.agg (cellsX T59 v0_2.1), .int .i64 v0_2.2])] [] (by (simp only [go_sem]) <;> (repeat' with_reducible apply And.intro) <;> first | assumption | rfl | omega | (unfold maxLen; omega)) ?_
  refine AO.allF tab_ok (by decide) [(1, .sl (.int .i64) w), (2, .sl (.int .i64) v0), (3, .sl (.int .i64) path), (10, .bp 10 0), (11, .int .i64 v0_2.2)] [(10, .box 59 (cellsX T59 v0_2.1))] (by (simp only [go_sem]) <;> (repeat' with_reducible apply And.intro) <;> first | assumption | rfl | omega | (unfold maxLen; omega)) ?_
  refine athen_n ?_
  refine AW.seq ?_
  refine AW.seq ?_
  refine AW.ops ?_
  refine AO.allF tab_ok (by decide) [(1, .sl (.int .i64) w), (2, .sl (.int .i64) v0), (3, .sl (.int .i64) path), (10, .bp 10 0), (11, .int .i64 v0_2.2), (24, .bool (!(decide (v0_2.2 = 0))))] [(10, .box 59 (cellsX T59 v0_2.1))] (by (simp only [go_sem]) <;> (repeat' with_reducible apply And.intro) <;> first | assumption | rfl | omega | (unfold maxLen; omega)) ?_
  refine athen_n ?_
  refine AW.cond (b := (!(decide (v0_2.2 = 0)))) rfl (fun hb2 => ?_) (fun hb2 => ?_)
  · rw [if_pos hb2] at h
    refine AW.seq ?_
    refine AW.ops ?_
    refine AO.allF tab_ok (by decide) [(8, .bool false), (9, .int .i64 v0_2.2)] [] (by (simp only [go_sem, hb2]) <;> (repeat' with_reducible apply And.intro) <;> first | assumption | rfl | omega | (unfold maxLen; omega)) ?_
    refine athen_n ?_
    refine AW.ret ?_
    refine athen_r ?_
    obtain rfl := Option.some.inj h
    exact ⟨rfl, [], [], [], rfl, (by (simp only [go_sem, hb2]) <;> (repeat' with_reducible apply And.intro) <;> first | assumption | rfl | omega | (unfold maxLen; omega))⟩
  · rw [if_neg (Bool.eq_false_iff.1 hb2)] at h
    refine AW.skip ?_
    refine athen_n ?_
    refine AW.seq ?_
    refine AW.seq ?_
    refine AW.ops ?_
    refine AO.allF tab_ok (by decide) [(1, .sl (.int .i64) w), (2, .sl (.int .i64) v0), (3, .sl (.int .i64) path), (10, .bp 10 0), (28, .bool (decide (1000 < (path.length : Int))))] [(10, .box 59 (cellsX T59 v0_2.1))] (by (simp only [go_sem, hb2]) <;> (repeat' with_reducible apply And.intro) <;> first | assumption | rfl | omega | (unfold maxLen; omega)) ?_
    refine athen_n ?_
    refine AW.cond (b := (decide (1000 < (path.length : Int)))) rfl (fun hb3 => ?_) (fun hb3 => ?_)
    · rw [if_pos hb3] at h
      refine AW.seq ?_
      refine AW.ops ?_
      refine AO.allF tab_ok (by decide) [(8, .bool false), (9, .int .i64 0)] [] (by (simp only [go_sem, hb2, hb3]) <;> (repeat' with_reducible apply And.intro) <;> first | assumption | rfl | omega | (unfold maxLen; omega)) ?_
      refine athen_n ?_
      refine AW.ret ?_
      refine athen_r ?_
      obtain rfl := Option.some.inj h
      exact ⟨rfl, [], [], [], rfl, (by (simp only [go_sem, hb2, hb3]) <;> (repeat' with_reducible apply And.intro) <;> first | assumption | rfl | omega | (unfold maxLen; omega))⟩
    · rw [if_neg (Bool.eq_false_iff.1 hb3)] at h
      refine AW.skip ?_
      refine athen_n ?_
      refine AW.seq ?_
      refine AW.ops ?_
      refine AO.segF tab_ok 1 (by decide) [(2, .sl (.int .i64) v0), (3, .sl (.int .i64) path), (10, .bp 10 0), (29, .sl (.int .i64) w)] [(10, .box 59 (cellsX T59 v0_2.1))] (by (simp only [go_sem, hb2, hb3]) <;> (repeat' with_reducible apply And.intro) <;> first | assumption | rfl | omega | (unfold maxLen; omega)) ?_
      obtain ⟨v0_3, hv4, h⟩ := Option.bind_eq_some_iff.1 h
      refine AO.call tab_ok (by decide) rfl rfl rfl (fun _ h => h) [] [] (hc_slices_Clone w hv4) rfl (by (simp only [go_sem, hb2, hb3]) <;> (repeat' with_reducible apply And.intro) <;> first | assumption | rfl | omega | (unfold maxLen; omega)) (by (simp only [go_sem, hb2, hb3]) <;> (repeat' with_reducible apply And.intro) <;> first | assumption | rfl | omega | (unfold maxLen; omega)) [(2, .sl (.int .i64) v0), (3, .sl (.int .i64) path), (10, .bp 10 0), (30, .own 40000)] [(10, .box 59 (cellsX T59 v0_2.1)), (40000, .arr 3 (.int .i64) v0_3)] (by (simp only [go_sem, hb2, hb3]) <;> (repeat' with_reducible apply And.intro) <;> first | assumption | rfl | omega | (unfold maxLen; omega)) ?_
      refine AO.allF tab_ok (by decide) [(2, .sl (.int .i64) v0), (3, .sl (.int .i64) path), (10, .bp 10 0), (12, .own 40000)] [(10, .box 59 (cellsX T59 v0_2.1)), (40000, .arr 3 (.int .i64) v0_3)] (by (simp only [go_sem, hb2, hb3]) <;> (repeat' with_reducible apply And.intro) <;> first | assumption | rfl | omega | (unfold maxLen; omega)) ?_
      refine athen_n ?_
      refine AW.have1 (fun b1 : (List Int) => weave_IsPath_k1 v0 b1 = some r) (fun b1 => ⟨fr [(2, .sl (.int .i64) v0), (12, .own 40000)], hpGet [(40000, .arr 3 (.int .i64) b1)], gt⟩) (fun b1 h => ?_) (fun hk_weave_IsPath_k1 => ?_)
      · unfold weave_IsPath_k1 at h
        refine AW.seq ?_
        refine AW.ops ?_
        refine AO.segF tab_ok 2 (by decide) [(43, .own 40000), (44, .sl (.int .i64) v0)] [(40000, .arr 3 (.int .i64) b1)] (by (simp only [go_sem, hb2, hb3]) <;> (repeat' with_reducible apply And.intro) <;> first | assumption | rfl | omega | (unfold maxLen; omega)) ?_
        obtain ⟨v0_5, hv5, h⟩ := Option.bind_eq_some_iff.1 h
        refine AO.call tab_ok (by decide) rfl rfl rfl (fun _ h => h) [40000] [] (hc_slices_Equal b1 v0 hv5) rfl (by (simp only [go_sem, hb2, hb3]) <;> (repeat' with_reducible apply And.intro) <;> first | assumption | rfl | omega | (unfold maxLen; omega)) (by (simp only [go_sem, hb2, hb3]) <;> (repeat' with_reducible apply And.intro) <;> first | assumption | rfl | omega | (unfold maxLen; omega)) [(45, .bool v0_5)] [] (by (simp only [go_sem, hb2, hb3]) <;> (repeat' with_reducible apply And.intro) <;> first | assumption | rfl | omega | (unfold maxLen; omega)) ?_
        refine AO.allF tab_ok (by decide) [(8, .bool v0_5), (9, .int .i64 0)] [] (by (simp only [go_sem, hb2, hb3]) <;> (repeat' with_reducible apply And.intro) <;> first | assumption | rfl | omega | (unfold maxLen; omega)) ?_
        refine athen_n ?_
        refine AW.ret ?_
        obtain rfl := Option.some.inj h
        exact ⟨rfl, [], [], [], rfl, (by (simp only [go_sem, hb2, hb3]) <;> (repeat' with_reducible apply And.intro) <;> first | assumption | rfl | omega | (unfold maxLen; omega))⟩
      · refine AW.seq ?_
        refine AW.seq ?_
        refine AW.ops ?_
        refine AO.allF tab_ok (by decide) [(2, .sl (.int .i64) v0), (10, .bp 10 0), (12, .own 40000), (31, .sl (.int .i64) path), (32, .int .i64 (path.length : Int)), (33, .int .i64 0)] [(10, .box 59 (cellsX T59 v0_2.1)), (40000, .arr 3 (.int .i64) v0_3)] (by (simp only [go_sem, hb2, hb3]) <;> (repeat' with_reducible apply And.intro) <;> first | assumption | rfl | omega | (unfold maxLen; omega)) ?_
        refine athen_n ?_
        refine AW.block ?_
        obtain ⟨rv10, hw6, ho7⟩ := Option.bind_eq_some_iff.1 h
        refine AW.loopO (weave_IsPath_b1 path v0_2) (fun st1 => ⟨fr [(2, .sl (.int .i64) v0), (10, .bp 10 0), (12, .own 40000), (31, .sl (.int .i64) path), (32, .int .i64 (path.length : Int)), (33, .int .i64 st1.2)], hpGet [(10, .box 59 (cellsX T59 v0_2.1)), (40000, .arr 3 (.int .i64) st1.1)], gt⟩) (v0_3, 0) hw6 (Wk.le [] [] [] rfl (by (simp only [go_sem, hb2, hb3]) <;> (repeat' with_reducible apply And.intro) <;> first | assumption | rfl | omega | (unfold maxLen; omega)) (by (simp only [go_sem, hb2, hb3]) <;> (repeat' with_reducible apply And.intro) <;> first | assumption | rfl | omega | (unfold maxLen; omega))) ?_
        intro st1 x9 h hd8
        unfold weave_IsPath_b1 at h
        refine AW.seq ?_
        refine AW.ops ?_
        refine AO.allF tab_ok (by decide) [(2, .sl (.int .i64) v0), (10, .bp 10 0), (12, .own 40000), (31, .sl (.int .i64) path), (32, .int .i64 (path.length : Int)), (33, .int .i64 st1.2), (34, .bool (decide (st1.2 < (path.length : Int))))] [(10, .box 59 (cellsX T59 v0_2.1)), (40000, .arr 3 (.int .i64) st1.1)] (by (simp only [go_sem, hb2, hb3]) <;> (repeat' with_reducible apply And.intro) <;> first | assumption | rfl | omega | (unfold maxLen; omega)) ?_
        refine athen_n ?_
        refine AW.seq ?_
        refine AW.cond (b := (decide (st1.2 < (path.length : Int)))) rfl (fun hb11 => ?_) (fun hb11 => ?_)
        · rw [if_pos hb11] at h
          refine AW.skip ?_
          refine athen_n ?_
          refine AW.seq ?_
          refine AW.block ?_
          refine AW.seq ?_
          refine AW.ops ?_
          obtain ⟨c12, h⟩ := ck_some.1 h
          obtain ⟨c13, h⟩ := ck_some.1 h
          refine AO.allF tab_ok (by decide) [(2, .sl (.int .i64) v0), (10, .bp 10 0), (12, .own 40000), (14, .int .i64 (path.getD st1.2.toNat 0)), (31, .sl (.int .i64) path), (32, .int .i64 (path.length : Int)), (33, .int .i64 st1.2)] [(10, .box 59 (cellsX T59 v0_2.1)), (40000, .arr 3 (.int .i64) st1.1)] (by (simp only [go_sem, hb2, hb3, hb11]) <;> (repeat' with_reducible apply And.intro) <;> first | assumption | rfl | omega | (unfold maxLen; omega)) ?_
          refine athen_n ?_
          refine AW.seq ?_
          refine AW.ops ?_
          refine AO.segF tab_ok 3 (by decide) [(2, .sl (.int .i64) v0), (10, .bp 10 0), (12, .own 40000), (31, .sl (.int .i64) path), (32, .int .i64 (path.length : Int)), (33, .int .i64 st1.2), (37, .agg (cellsX T59 v0_2.1)), (38, .own 40000), (39, .int .i64 (path.getD st1.2.toNat 0))] [(10, .box 59 (cellsX T59 v0_2.1)), (40000, .arr 3 (.int .i64) st1.1)] (by (simp only [go_sem, hb2, hb3, hb11]) <;> (repeat' with_reducible apply And.intro) <;> first | assumption | rfl | omega | (unfold maxLen; omega)) ?_
          obtain ⟨v0_4, hv14, h⟩ := Option.bind_eq_some_iff.1 h
          refine AO.call tab_ok (by decide) rfl rfl rfl (fun _ h => h) [] [(1000, 40000)] (hc_weave_ties_exchange v0_2.1 (path.getD st1.2.toNat 0) st1.1 hv14) rfl (by (simp only [go_sem, hb2, hb3, hb11]) <;> (repeat' with_reducible apply And.intro) <;> first | assumption | rfl | omega | (unfold maxLen; omega)) (by (simp only [go_sem, hb2, hb3, hb11]) <;> (repeat' with_reducible apply And.intro) <;> first | assumption | rfl | omega | (unfold maxLen; omega)) [(2, .sl (.int .i64) v0), (10, .bp 10 0), (12, .own 40000), (31, .sl (.int .i64) path), (32, .int .i64 (path.length : Int)), (33, .int .i64 st1.2), (40, .bool v0_4.1)] [(10, .box 59 (cellsX T59 v0_2.1)), (40000, .arr 3 (.int .i64) v0_4.2)] (by (simp only [go_sem, hb2, hb3, hb11]) <;> (repeat' with_reducible apply And.intro) <;> first | assumption | rfl | omega | (unfold maxLen; omega)) ?_
          refine AO.allF tab_ok (by decide) [(2, .sl (.int .i64) v0), (10, .bp 10 0), (12, .own 40000), (31, .sl (.int .i64) path), (32, .int .i64 (path.length : Int)), (33, .int .i64 st1.2), (41, .bool (!v0_4.1))] [(10, .box 59 (cellsX T59 v0_2.1)), (40000, .arr 3 (.int .i64) v0_4.2)] (by (simp only [go_sem, hb2, hb3, hb11]) <;> (repeat' with_reducible apply And.intro) <;> first | assumption | rfl | omega | (unfold maxLen; omega)) ?_
          refine athen_n ?_
          refine AW.cond (b := (!v0_4.1)) rfl (fun hb15 => ?_) (fun hb15 => ?_)
          · rw [if_pos hb15] at h
            refine AW.seq ?_
            refine AW.ops ?_
            refine AO.allF tab_ok (by decide) [(8, .bool false), (9, .int .i64 0)] [] (by (simp only [go_sem, hb2, hb3, hb11, hb15]) <;> (repeat' with_reducible apply And.intro) <;> first | assumption | rfl | omega | (unfold maxLen; omega)) ?_
            refine athen_n ?_
            refine AW.ret ?_
            refine ablock_r ?_
            refine athen_r ?_
            obtain rfl := Option.some.inj h
            rw [← hd8 _ rfl] at ho7
            have h := ho7
            try simp only at h
            refine athen_r ?_
            refine ablock_r ?_
            refine athen_r ?_
            obtain rfl := Option.some.inj h
            exact ⟨rfl, [], [], [], rfl, (by (simp only [go_sem, hb2, hb3, hb11, hb15]) <;> (repeat' with_reducible apply And.intro) <;> first | assumption | rfl | omega | (unfold maxLen; omega))⟩
          · rw [if_neg (Bool.eq_false_iff.1 hb15)] at h
            refine AW.skip ?_
            refine ablock_n ?_
            refine athen_n ?_
            refine AW.ops ?_
            obtain ⟨c16, h⟩ := ck_some.1 h
            refine AO.allF tab_ok (by decide) [(2, .sl (.int .i64) v0), (10, .bp 10 0), (12, .own 40000), (31, .sl (.int .i64) path), (32, .int .i64 (path.length : Int)), (33, .int .i64 (st1.2 + 1))] [(10, .box 59 (cellsX T59 v0_2.1)), (40000, .arr 3 (.int .i64) v0_4.2)] (by (simp only [go_sem, hb2, hb3, hb11, hb15]) <;> (repeat' with_reducible apply And.intro) <;> first | assumption | rfl | omega | (unfold maxLen; omega)) ?_
            obtain rfl := Option.some.inj h
            exact ⟨_, rfl, Wk.le [] [] [] rfl (by (simp only [go_sem, hb2, hb3, hb11, hb15]) <;> (repeat' with_reducible apply And.intro) <;> first | assumption | rfl | omega | (unfold maxLen; omega)) (by (simp only [go_sem, hb2, hb3, hb11, hb15]) <;> (repeat' with_reducible apply And.intro) <;> first | assumption | rfl | omega | (unfold maxLen; omega))⟩
        · rw [if_neg (Bool.eq_false_iff.1 hb11)] at h
          refine AW.exit ?_
          refine athen_e ?_
          obtain rfl := Option.some.inj h
          rw [← hd8 _ rfl] at ho7
          have h := ho7
          try simp only at h
          refine athen_e ?_
          refine ablock_s ?_
          refine athen_n ?_
          exact AW.weaken (Wk.le [] [] [] rfl (by (simp only [go_sem, hb2, hb3, hb11]) <;> (repeat' with_reducible apply And.intro) <;> first | assumption | rfl | omega | (unfold maxLen; omega)) (by (simp only [go_sem, hb2, hb3, hb11]) <;> (repeat' with_reducible apply And.intro) <;> first | assumption | rfl | omega | (unfold maxLen; omega))) (hk_weave_IsPath_k1 _ h)

end Go.Proofs.Ytcijihofjcfpoab
