/-
  Made by wip/tool/dc.py out of the print of the program: contracts.
-/
import Derived.Test.YtcijihofjcfpoabWp
import Derived.Test.YtcijihofjcfpoabTb3
import Derived.Test.YtcijihofjcfpoabXfc1
import Derived.Test.YtcijihofjcfpoabXfc2
import Derived.Test.YtcijihofjcfpoabXfc3
namespace Go.Proofs.Ytcijihofjcfpoab
open Go.RowKit

set_option linter.unusedSimpArgs false
set_option linter.unusedVariables false
set_option linter.constructorNameAsVariable false

set_option maxRecDepth 100000 in
set_option maxHeartbeats 2000000 in
theorem hc_weave_ties_first (t : (El T59)) (w : List Int) {r : (List Int)} (h : weave_ties_first t w = some r) : HC Try.prog 70 [] [.agg (cellsX T59 t), .sl (.int .i64) w] [] (.sl (.int .i64) r) := by
  unfold weave_ties_first at h
  refine HC.of_body tab_ok (res := [.cell 4 25]) Try.func70 rfl (by kernel_rfl) rfl (nt := 11) rfl (by decide) (by simp) ?_
  refine AW.seq ?_
  refine AW.ops ?_
  refine AO.allF tab_ok (by decide) [(1, .sl (.int .i64) w), (2, .bp 2 0), (4, .bp 4 0)] [(2, .box 59 (cellsX T59 t)), (4, .box 25 [.cv (.slice none 0 0)])] (by (simp only [go_sem]) <;> (repeat' with_reducible apply And.intro) <;> first | assumption | rfl | omega | (unfold maxLen; omega)) ?_
  refine athen_n ?_
  refine AW.have1 (fun _ : Unit => weave_ties_first_k1 = some r) (fun _ => ⟨fr [(4, .bp 4 0)], hpGet [(4, .box 25 [.cv (.slice none 0 0)])], gt⟩) (fun _ h => ?_) (fun hk_weave_ties_first_k1 => ?_)
  · unfold weave_ties_first_k1 at h
    refine AW.seq ?_
    refine AW.ops ?_
    refine AO.allF tab_ok (by decide) [(4, .bp 4 0)] [(4, .box 25 [.cv (.slice none 0 0)])] (by (simp only [go_sem]) <;> (repeat' with_reducible apply And.intro) <;> first | assumption | rfl | omega | (unfold maxLen; omega)) ?_
    refine athen_n ?_
    refine AW.ret ?_
    obtain rfl := Option.some.inj h
    exact ⟨rfl, [], [], [], rfl, (by (simp only [go_sem]) <;> (repeat' with_reducible apply And.intro) <;> first | assumption | rfl | omega | (unfold maxLen; omega))⟩
  · refine AW.seq ?_
    refine AW.seq ?_
    refine AW.ops ?_
    refine AO.segF tab_ok 2 (by decide) [(4, .bp 4 0), (6, .agg (cellsX T59 t)), (7, .sl (.int .i64) w)] [(4, .box 25 [.cv (.slice none 0 0)])] (by (simp only [go_sem]) <;> (repeat' with_reducible apply And.intro) <;> first | assumption | rfl | omega | (unfold maxLen; omega)) ?_
    obtain ⟨v0, hv1, h⟩ := Option.bind_eq_some_iff.1 h
    refine AO.call tab_ok (by decide) rfl rfl rfl (fun _ h => h) [] [] (hc_weave_ties_class t w hv1) rfl (by (simp only [go_sem]) <;> (repeat' with_reducible apply And.intro) <;> first | assumption | rfl | omega | (unfold maxLen; omega)) (by (simp only [go_sem]) <;> (repeat' with_reducible apply And.intro) <;> first | assumption | rfl | omega | (unfold maxLen; omega)) [(4, .bp 4 0), (8, .fn (.func 97) [] [.bp 18000 0, .bp 18001 0])] [(4, .box 25 [.cv (.slice none 0 0)]), (18000, .box 25 [.sl (.int .i64) w]), (18001, .box 59 (cellsX T59 t))] (by (simp only [go_sem]) <;> (repeat' with_reducible apply And.intro) <;> first | assumption | rfl | omega | (unfold maxLen; omega)) ?_
    refine AO.allF tab_ok (by decide) [(4, .bp 4 0), (8, .fn (.func 97) [] [.bp 18000 0, .bp 18001 0])] [(4, .box 25 [.cv (.slice none 0 0)]), (18000, .box 25 [.sl (.int .i64) w]), (18001, .box 59 (cellsX T59 t))] (by (simp only [go_sem]) <;> (repeat' with_reducible apply And.intro) <;> first | assumption | rfl | omega | (unfold maxLen; omega)) ?_
    refine athen_n ?_
    refine AW.block ?_
    obtain ⟨x2, hx3, h⟩ := Option.bind_eq_some_iff.1 h
    refine AW.weaken (s' := ⟨fr [(4, .bp 4 0), (8, .fn (.func 97) [] [.bp 18000 0, .bp 18001 0])], hpGet ([(18000, .box 25 [.sl (.int .i64) w]), (18001, .box 59 (cellsX T59 t))] ++ [(4, .box 25 [.cv (.slice none 0 0)])]), gt⟩) (Wk.le [] [] [] rfl (by (simp only [go_sem]) <;> (repeat' with_reducible apply And.intro) <;> first | assumption | rfl | omega | (unfold maxLen; omega)) (by (simp only [go_sem]) <;> (repeat' with_reducible apply And.intro) <;> first | assumption | rfl | omega | (unfold maxLen; omega))) ?_
    refine AW.rangeF (R := (List Int)) (l0 := [(4, .bp 4 0)]) (hI := [(18000, .box 25 [.sl (.int .i64) w]), (18001, .box 59 (cellsX T59 t))]) (h0 := fun (st1 : Unit) => [(4, .box 25 [.cv (.slice none 0 0)])]) (gg := fun (st1 : Unit) => gt) (hx0 := (fun (r1 : (List Int)) => [(4, .box 25 [.sl (.int .i64) r1])])) (gx := (fun (r1 : (List Int)) => gt)) (ex := (fun (r1 : (List Int)) => Exit.ret)) () [(18000, 1000), (18001, 1001)] [(1000, 18000), (1001, 18001)] [(4, 1900)] [(1900, 4)] (by decide) rfl (by first | exact (ic_weave_ties_class_1 fuel w t (weave_ties_first_y1) () hx3) | simpa only [go_sem] using (ic_weave_ties_class_1 fuel w t (weave_ties_first_y1) () hx3)) (by (simp only [go_sem]) <;> (repeat' with_reducible apply And.intro) <;> first | assumption | rfl | omega | (unfold maxLen; omega)) rfl rfl rfl (fun _ => rfl) rfl (fun _ => rfl) rfl (fun _ => rfl) (fun _ => rfl) (fun _ => rfl) (fun _ => rfl) rfl (fun _ _ => by first | rfl | (exact (hΓ _).trans (hΓ _).symm) | (exact (hΓx _).trans (hΓ _).symm)) (fun _ _ => by first | rfl | (exact (hΓ _).trans (hΓ _).symm) | (exact (hΓx _).trans (hΓ _).symm)) ?_ ?_
    · intro lpy1 y1 st1 x4 h
      unfold weave_ties_first_y1 at h
      refine AW.weaken (s' := ⟨fr [(4, .bp 1900 0), (9, .sl (.int .i64) y1)], hpGet [(1900, .box 25 [.cv (.slice none 0 0)])], gt⟩) (Wk.to (by (simp only [go_sem]) <;> (repeat' with_reducible apply And.intro) <;> first | assumption | rfl | omega | (unfold maxLen; omega))) ?_
      refine AW.ops ?_
      refine AO.allF tab_ok (by decide) [(4, .bp 1900 0), (5, .sl (.int .i64) y1)] [(1900, .box 25 [.cv (.slice none 0 0)])] (by (simp only [go_sem]) <;> (repeat' with_reducible apply And.intro) <;> first | assumption | rfl | omega | (unfold maxLen; omega)) ?_
      refine And.intro rfl ?_
      refine AW.block ?_
      refine AW.seq ?_
      refine AW.ops ?_
      refine AO.allF tab_ok (by decide) [(4, .bp 1900 0)] [(1900, .box 25 [.sl (.int .i64) y1])] (by (simp only [go_sem]) <;> (repeat' with_reducible apply And.intro) <;> first | assumption | rfl | omega | (unfold maxLen; omega)) ?_
      refine athen_n ?_
      refine AW.ret ?_
      refine ablock_r ?_
      obtain rfl := Option.some.inj h
      exact rpost_ret rfl rfl [] [] [] rfl (by (simp only [go_sem]) <;> (repeat' with_reducible apply And.intro) <;> first | assumption | rfl | omega | (unfold maxLen; omega))
    · cases x2 with
      | inl st1_2 =>
        try simp only at h
        refine ablock_n ?_
        refine athen_n ?_
        exact AW.weaken (Wk.le [] [] [] rfl (by (simp only [go_sem]) <;> (repeat' with_reducible apply And.intro) <;> first | assumption | rfl | omega | (unfold maxLen; omega)) (by (simp only [go_sem]) <;> (repeat' with_reducible apply And.intro) <;> first | assumption | rfl | omega | (unfold maxLen; omega))) (hk_weave_ties_first_k1 () h)
      | inr r1 =>
        try simp only at h
        refine ablock_r ?_
        refine athen_r ?_
        obtain rfl := Option.some.inj h
        exact ⟨rfl, [], [], [], rfl, (by (simp only [go_sem]) <;> (repeat' with_reducible apply And.intro) <;> first | assumption | rfl | omega | (unfold maxLen; omega))⟩

set_option maxRecDepth 100000 in
set_option maxHeartbeats 2000000 in
theorem hc_weave_Joined (l : Int × (List (Int × Int))) (w : List Int) (v0 : List Int) {r : (List Int) × Int} (h : weave_Joined l w v0 = some r) : HC Try.prog 44 [] [.agg [.int .i64 l.1, .sl (.pair (.int .i64) (.int .i64)) l.2], .sl (.int .i64) w, .sl (.int .i64) v0] [] (.tup [.sl (.int .i64) r.1, .int .i64 r.2]) := by
  unfold weave_Joined at h
  refine HC.of_body tab_ok (res := [.tmp 6, .tmp 7]) Try.func44 rfl (by kernel_rfl) rfl (nt := 33) rfl (by decide) (by simp) ?_
  refine AW.seq ?_
  refine AW.ops ?_
  refine AO.allF tab_ok (by decide) [(1, .sl (.int .i64) w), (2, .sl (.int .i64) v0), (3, .bp 3 0)] [(3, .box 24 [.int .i64 l.1, .sl (.pair (.int .i64) (.int .i64)) l.2])] (by (simp only [go_sem]) <;> (repeat' with_reducible apply And.intro) <;> first | assumption | rfl | omega | (unfold maxLen; omega)) ?_
  refine athen_n ?_
  refine AW.seq ?_
  refine AW.ops ?_
  refine AO.segF tab_ok 4 (by decide) [(1, .sl (.int .i64) w), (2, .sl (.int .i64) v0), (11, .agg [.int .i64 l.1, .sl (.pair (.int .i64) (.int .i64)) l.2]), (14, .own 14)] [(14, .arr 25 (.sl (.int .i64)) [w, v0])] (by (simp only [go_sem]) <;> (repeat' with_reducible apply And.intro) <;> first | assumption | rfl | omega | (unfold maxLen; omega)) ?_
  obtain ⟨v0_2, hv1, h⟩ := Option.bind_eq_some_iff.1 h
  refine AO.call tab_ok (by decide) rfl rfl rfl (fun _ h => h) [14] [] (hc_weave_checked l [w, v0] hv1) rfl (by (simp only [go_sem]) <;> (repeat' with_reducible apply And.intro) <;> first | assumption | rfl | omega | (unfold maxLen; omega)) (by (simp only [go_sem]) <;> (repeat' with_reducible apply And.intro) <;> first | assumption | rfl | omega | (unfold maxLen; omega)) [(1, .sl (.int .i64) w), (2, .sl (.int .i64) v0), (15, .tup [.agg (cellsX T59 v0_2.1), .int .i64 v0_2.2])] [] (by (simp only [go_sem]) <;> (repeat' with_reducible apply And.intro) <;> first | assumption | rfl | omega | (unfold maxLen; omega)) ?_
  refine AO.allF tab_ok (by decide) [(1, .sl (.int .i64) w), (2, .sl (.int .i64) v0), (8, .bp 8 0), (9, .int .i64 v0_2.2)] [(8, .box 59 (cellsX T59 v0_2.1))] (by (simp only [go_sem]) <;> (repeat' with_reducible apply And.intro) <;> first | assumption | rfl | omega | (unfold maxLen; omega)) ?_
  refine athen_n ?_
  refine AW.seq ?_
  refine AW.seq ?_
  refine AW.ops ?_
  refine AO.allF tab_ok (by decide) [(1, .sl (.int .i64) w), (2, .sl (.int .i64) v0), (8, .bp 8 0), (9, .int .i64 v0_2.2), (19, .bool (!(decide (v0_2.2 = 0))))] [(8, .box 59 (cellsX T59 v0_2.1))] (by (simp only [go_sem]) <;> (repeat' with_reducible apply And.intro) <;> first | assumption | rfl | omega | (unfold maxLen; omega)) ?_
  refine athen_n ?_
  refine AW.cond (b := (!(decide (v0_2.2 = 0)))) rfl (fun hb2 => ?_) (fun hb2 => ?_)
  · rw [if_pos hb2] at h
    refine AW.seq ?_
    refine AW.ops ?_
    refine AO.allF tab_ok (by decide) [(6, .cv (.slice none 0 0)), (7, .int .i64 v0_2.2)] [] (by (simp only [go_sem, hb2]) <;> (repeat' with_reducible apply And.intro) <;> first | assumption | rfl | omega | (unfold maxLen; omega)) ?_
    refine athen_n ?_
    refine AW.ret ?_
    refine athen_r ?_
    obtain rfl := Option.some.inj h
    exact ⟨rfl, [], [], [], rfl, (by (simp only [go_sem, hb2]) <;> (repeat' with_reducible apply And.intro) <;> first | assumption | rfl | omega | (unfold maxLen; omega))⟩
  · rw [if_neg (Bool.eq_false_iff.1 hb2)] at h
    refine AW.skip ?_
    refine athen_n ?_
    refine AW.seq ?_
    refine AW.seq ?_
    refine AW.ops ?_
    obtain ⟨c3, h⟩ := ck_some.1 h
    refine AO.allF tab_ok (by decide) [(1, .sl (.int .i64) w), (2, .sl (.int .i64) v0), (8, .bp 8 0), (26, .bool (decide (10 < ((w.length : Int) + (v0.length : Int)))))] [(8, .box 59 (cellsX T59 v0_2.1))] (by (simp only [go_sem, hb2]) <;> (repeat' with_reducible apply And.intro) <;> first | assumption | rfl | omega | (unfold maxLen; omega)) ?_
    refine athen_n ?_
    refine AW.cond (b := (decide (10 < ((w.length : Int) + (v0.length : Int))))) rfl (fun hb4 => ?_) (fun hb4 => ?_)
    · rw [if_pos hb4] at h
      refine AW.seq ?_
      refine AW.ops ?_
      refine AO.allF tab_ok (by decide) [(6, .cv (.slice none 0 0)), (7, .int .i64 4)] [] (by (simp only [go_sem, hb2, hb4]) <;> (repeat' with_reducible apply And.intro) <;> first | assumption | rfl | omega | (unfold maxLen; omega)) ?_
      refine athen_n ?_
      refine AW.ret ?_
      refine athen_r ?_
      obtain rfl := Option.some.inj h
      exact ⟨rfl, [], [], [], rfl, (by (simp only [go_sem, hb2, hb4]) <;> (repeat' with_reducible apply And.intro) <;> first | assumption | rfl | omega | (unfold maxLen; omega))⟩
    · rw [if_neg (Bool.eq_false_iff.1 hb4)] at h
      refine AW.skip ?_
      refine athen_n ?_
      refine AW.seq ?_
      refine AW.draw tab_ok mixed_ok [(3, [30]), (4, [41000]), (5, [41000])] [(0, [8])] (by decide) (by kernel_rfl) ?_
      refine adops_cut 4 (fun K' hK5 => ?_)
      try dsimp only [List.drop_succ_cons, List.drop_zero, List.take_succ_cons, List.take_zero]
      simp only [go_sem, hb2, hb4]
      repeat (with_reducible refine And.intro (by first | assumption | rfl | omega | trivial | (unfold maxLen; omega)) ?_)
      refine hK5 _ ?_
      obtain ⟨v0_3, hv6, h⟩ := Option.bind_eq_some_iff.1 h
      refine adops.call (by first | trivial | rfl) rfl rfl rfl (fun _ h => h) [30] [] (hc_slices_Concat [w, v0] hv6) rfl (by (simp only [go_sem, hb2, hb4]) <;> (repeat' with_reducible apply And.intro) <;> first | assumption | rfl | omega | (unfold maxLen; omega)) (by (simp only [go_sem, hb2, hb4]) <;> (repeat' with_reducible apply And.intro) <;> first | assumption | rfl | omega | (unfold maxLen; omega)) rfl ?_
      obtain ⟨v0_4, hv7, h⟩ := Option.bind_eq_some_iff.1 h
      refine adops.call (by first | trivial | rfl) rfl rfl rfl (fun _ h => h) [41000] [] (hc_weave_ties_first v0_2.1 v0_3 hv7) rfl (by (simp only [go_sem, hb2, hb4]) <;> (repeat' with_reducible apply And.intro) <;> first | assumption | rfl | omega | (unfold maxLen; omega)) (by (simp only [go_sem, hb2, hb4]) <;> (repeat' with_reducible apply And.intro) <;> first | assumption | rfl | omega | (unfold maxLen; omega)) rfl ?_
      refine adops_cut 2 (fun K' hK8 => ?_)
      try dsimp only [List.drop_succ_cons, List.drop_zero, List.take_succ_cons, List.take_zero]
      simp only [go_sem, hb2, hb4]
      repeat (with_reducible refine And.intro (by first | assumption | rfl | omega | trivial | (unfold maxLen; omega)) ?_)
      refine hK8 _ ?_
      refine adops_nil ?_
      refine athen_n ?_
      refine AW.weaken (s' := ⟨fr [(6, .sl (.int .i64) v0_4), (7, .int .i64 0)], hpGet [], gt⟩) (Wk.to (by (simp only [go_sem, hb2, hb4]) <;> (repeat' with_reducible apply And.intro) <;> first | assumption | rfl | omega | (unfold maxLen; omega))) ?_
      refine AW.ret ?_
      obtain rfl := Option.some.inj h
      exact ⟨rfl, [], [], [], rfl, (by (simp only [go_sem, hb2, hb4]) <;> (repeat' with_reducible apply And.intro) <;> first | assumption | rfl | omega | (unfold maxLen; omega))⟩

set_option maxRecDepth 100000 in
set_option maxHeartbeats 2000000 in
theorem hc_weave_ties_rest (t : (El T59)) (begin : List Int) (w : List Int) {r : (List Int) × Bool} (h : weave_ties_rest t begin w = some r) : HC Try.prog 85 [] [.agg (cellsX T59 t), .sl (.int .i64) begin, .sl (.int .i64) w] [] (.tup [.sl (.int .i64) r.1, .bool r.2]) := by
  unfold weave_ties_rest at h
  refine HC.of_body tab_ok (res := [.tmp 6, .tmp 7]) Try.func85 rfl (by kernel_rfl) rfl (nt := 30) rfl (by decide) (by simp) ?_
  refine AW.seq ?_
  refine AW.ops ?_
  refine AO.allF tab_ok (by decide) [(1, .sl (.int .i64) begin), (2, .sl (.int .i64) w), (3, .bp 3 0)] [(3, .box 59 (cellsX T59 t))] (by (simp only [go_sem]) <;> (repeat' with_reducible apply And.intro) <;> first | assumption | rfl | omega | (unfold maxLen; omega)) ?_
  refine athen_n ?_
  refine AW.have1 (fun b1 : (List Int) => weave_ties_rest_k1 b1 = some r) (fun b1 => ⟨fr [(2, .sl (.int .i64) b1)], hpGet [], gt⟩) (fun b1 h => ?_) (fun hk_weave_ties_rest_k1 => ?_)
  · unfold weave_ties_rest_k1 at h
    refine AW.seq ?_
    refine AW.ops ?_
    refine AO.allF tab_ok (by decide) [(6, .sl (.int .i64) b1), (7, .bool true)] [] (by (simp only [go_sem]) <;> (repeat' with_reducible apply And.intro) <;> first | assumption | rfl | omega | (unfold maxLen; omega)) ?_
    refine athen_n ?_
    refine AW.ret ?_
    obtain rfl := Option.some.inj h
    exact ⟨rfl, [], [], [], rfl, (by (simp only [go_sem]) <;> (repeat' with_reducible apply And.intro) <;> first | assumption | rfl | omega | (unfold maxLen; omega))⟩
  · refine AW.seq ?_
    refine AW.seq ?_
    refine AW.ops ?_
    refine AO.allF tab_ok (by decide) [(2, .sl (.int .i64) w), (3, .bp 3 0), (12, .sl (.int .i64) begin), (13, .int .i64 (begin.length : Int)), (14, .int .i64 0)] [(3, .box 59 (cellsX T59 t))] (by (simp only [go_sem]) <;> (repeat' with_reducible apply And.intro) <;> first | assumption | rfl | omega | (unfold maxLen; omega)) ?_
    refine athen_n ?_
    refine AW.block ?_
    obtain ⟨rv5, hw1, ho2⟩ := Option.bind_eq_some_iff.1 h
    refine AW.loopO (weave_ties_rest_b1 t begin) (fun st1 => ⟨fr [(2, .sl (.int .i64) st1.1), (3, .bp 3 0), (12, .sl (.int .i64) begin), (13, .int .i64 (begin.length : Int)), (14, .int .i64 st1.2)], hpGet [(3, .box 59 (cellsX T59 t))], gt⟩) (w, 0) hw1 (Wk.le [] [] [] rfl (by (simp only [go_sem]) <;> (repeat' with_reducible apply And.intro) <;> first | assumption | rfl | omega | (unfold maxLen; omega)) (by (simp only [go_sem]) <;> (repeat' with_reducible apply And.intro) <;> first | assumption | rfl | omega | (unfold maxLen; omega))) ?_
    intro st1 x4 h hd3
    unfold weave_ties_rest_b1 at h
    refine AW.seq ?_
    refine AW.ops ?_
    refine AO.allF tab_ok (by decide) [(2, .sl (.int .i64) st1.1), (3, .bp 3 0), (12, .sl (.int .i64) begin), (13, .int .i64 (begin.length : Int)), (14, .int .i64 st1.2), (15, .bool (decide (st1.2 < (begin.length : Int))))] [(3, .box 59 (cellsX T59 t))] (by (simp only [go_sem]) <;> (repeat' with_reducible apply And.intro) <;> first | assumption | rfl | omega | (unfold maxLen; omega)) ?_
    refine athen_n ?_
    refine AW.seq ?_
    refine AW.cond (b := (decide (st1.2 < (begin.length : Int)))) rfl (fun hb6 => ?_) (fun hb6 => ?_)
    · rw [if_pos hb6] at h
      refine AW.skip ?_
      refine athen_n ?_
      refine AW.seq ?_
      refine AW.block ?_
      refine AW.seq ?_
      refine AW.ops ?_
      obtain ⟨c7, h⟩ := ck_some.1 h
      obtain ⟨c8, h⟩ := ck_some.1 h
      refine AO.allF tab_ok (by decide) [(2, .sl (.int .i64) st1.1), (3, .bp 3 0), (9, .int .i64 (begin.getD st1.2.toNat 0)), (12, .sl (.int .i64) begin), (13, .int .i64 (begin.length : Int)), (14, .int .i64 st1.2)] [(3, .box 59 (cellsX T59 t))] (by (simp only [go_sem, hb6]) <;> (repeat' with_reducible apply And.intro) <;> first | assumption | rfl | omega | (unfold maxLen; omega)) ?_
      refine athen_n ?_
      refine AW.seq ?_
      refine AW.ops ?_
      refine AO.segF tab_ok 3 (by decide) [(3, .bp 3 0), (12, .sl (.int .i64) begin), (13, .int .i64 (begin.length : Int)), (14, .int .i64 st1.2), (19, .agg (cellsX T59 t)), (20, .sl (.int .i64) st1.1), (21, .int .i64 (begin.getD st1.2.toNat 0))] [(3, .box 59 (cellsX T59 t))] (by (simp only [go_sem, hb6]) <;> (repeat' with_reducible apply And.intro) <;> first | assumption | rfl | omega | (unfold maxLen; omega)) ?_
      obtain ⟨v0, hv9, h⟩ := Option.bind_eq_some_iff.1 h
      refine AO.call tab_ok (by decide) rfl rfl rfl (fun _ h => h) [] [] (hc_weave_ties_without t st1.1 (begin.getD st1.2.toNat 0) hv9) rfl (by (simp only [go_sem, hb6]) <;> (repeat' with_reducible apply And.intro) <;> first | assumption | rfl | omega | (unfold maxLen; omega)) (by (simp only [go_sem, hb6]) <;> (repeat' with_reducible apply And.intro) <;> first | assumption | rfl | omega | (unfold maxLen; omega)) [(3, .bp 3 0), (12, .sl (.int .i64) begin), (13, .int .i64 (begin.length : Int)), (14, .int .i64 st1.2), (22, .tup [.own 32000, .bool v0.2])] [(3, .box 59 (cellsX T59 t)), (32000, .arr 3 (.int .i64) v0.1)] (by (simp only [go_sem, hb6]) <;> (repeat' with_reducible apply And.intro) <;> first | assumption | rfl | omega | (unfold maxLen; omega)) ?_
      refine AO.allF tab_ok (by decide) [(3, .bp 3 0), (10, .own 32000), (11, .bool v0.2), (12, .sl (.int .i64) begin), (13, .int .i64 (begin.length : Int)), (14, .int .i64 st1.2)] [(3, .box 59 (cellsX T59 t)), (32000, .arr 3 (.int .i64) v0.1)] (by (simp only [go_sem, hb6]) <;> (repeat' with_reducible apply And.intro) <;> first | assumption | rfl | omega | (unfold maxLen; omega)) ?_
      refine athen_n ?_
      refine AW.seq ?_
      refine AW.seq ?_
      refine AW.ops ?_
      refine AO.allF tab_ok (by decide) [(3, .bp 3 0), (10, .own 32000), (12, .sl (.int .i64) begin), (13, .int .i64 (begin.length : Int)), (14, .int .i64 st1.2), (26, .bool (!v0.2))] [(3, .box 59 (cellsX T59 t)), (32000, .arr 3 (.int .i64) v0.1)] (by (simp only [go_sem, hb6]) <;> (repeat' with_reducible apply And.intro) <;> first | assumption | rfl | omega | (unfold maxLen; omega)) ?_
      refine athen_n ?_
      refine AW.cond (b := (!v0.2)) rfl (fun hb10 => ?_) (fun hb10 => ?_)
      · rw [if_pos hb10] at h
        refine AW.seq ?_
        refine AW.ops ?_
        refine AO.allF tab_ok (by decide) [(6, .cv (.slice none 0 0)), (7, .bool false)] [] (by (simp only [go_sem, hb6, hb10]) <;> (repeat' with_reducible apply And.intro) <;> first | assumption | rfl | omega | (unfold maxLen; omega)) ?_
        refine athen_n ?_
        refine AW.ret ?_
        refine athen_r ?_
        refine ablock_r ?_
        refine athen_r ?_
        obtain rfl := Option.some.inj h
        rw [← hd3 _ rfl] at ho2
        have h := ho2
        try simp only at h
        refine athen_r ?_
        refine ablock_r ?_
        refine athen_r ?_
        obtain rfl := Option.some.inj h
        exact ⟨rfl, [], [], [], rfl, (by (simp only [go_sem, hb6, hb10]) <;> (repeat' with_reducible apply And.intro) <;> first | assumption | rfl | omega | (unfold maxLen; omega))⟩
      · rw [if_neg (Bool.eq_false_iff.1 hb10)] at h
        refine AW.skip ?_
        refine athen_n ?_
        refine AW.ops ?_
        refine AO.allF tab_ok (by decide) [(2, .own 32000), (3, .bp 3 0), (12, .sl (.int .i64) begin), (13, .int .i64 (begin.length : Int)), (14, .int .i64 st1.2)] [(3, .box 59 (cellsX T59 t)), (32000, .arr 3 (.int .i64) v0.1)] (by (simp only [go_sem, hb6, hb10]) <;> (repeat' with_reducible apply And.intro) <;> first | assumption | rfl | omega | (unfold maxLen; omega)) ?_
        refine ablock_n ?_
        refine athen_n ?_
        refine AW.ops ?_
        obtain ⟨c11, h⟩ := ck_some.1 h
        refine AO.allF tab_ok (by decide) [(2, .own 32000), (3, .bp 3 0), (12, .sl (.int .i64) begin), (13, .int .i64 (begin.length : Int)), (14, .int .i64 (st1.2 + 1))] [(3, .box 59 (cellsX T59 t)), (32000, .arr 3 (.int .i64) v0.1)] (by (simp only [go_sem, hb6, hb10]) <;> (repeat' with_reducible apply And.intro) <;> first | assumption | rfl | omega | (unfold maxLen; omega)) ?_
        obtain rfl := Option.some.inj h
        exact ⟨_, rfl, Wk.le [32000] [] [] rfl (by (simp only [go_sem, hb6, hb10]) <;> (repeat' with_reducible apply And.intro) <;> first | assumption | rfl | omega | (unfold maxLen; omega)) (by (simp only [go_sem, hb6, hb10]) <;> (repeat' with_reducible apply And.intro) <;> first | assumption | rfl | omega | (unfold maxLen; omega))⟩
    · rw [if_neg (Bool.eq_false_iff.1 hb6)] at h
      refine AW.exit ?_
      refine athen_e ?_
      obtain rfl := Option.some.inj h
      rw [← hd3 _ rfl] at ho2
      have h := ho2
      try simp only at h
      refine athen_e ?_
      refine ablock_s ?_
      refine athen_n ?_
      exact AW.weaken (Wk.le [] [] [] rfl (by (simp only [go_sem, hb6]) <;> (repeat' with_reducible apply And.intro) <;> first | assumption | rfl | omega | (unfold maxLen; omega)) (by (simp only [go_sem, hb6]) <;> (repeat' with_reducible apply And.intro) <;> first | assumption | rfl | omega | (unfold maxLen; omega))) (hk_weave_ties_rest_k1 _ h)

set_option maxRecDepth 100000 in
set_option maxHeartbeats 2000000 in
theorem hc_weave_Begins (l : Int × (List (Int × Int))) (u : List Int) (w : List Int) {r : Bool × Int} (h : weave_Begins l u w = some r) : HC Try.prog 46 [] [.agg [.int .i64 l.1, .sl (.pair (.int .i64) (.int .i64)) l.2], .sl (.int .i64) u, .sl (.int .i64) w] [] (.tup [.bool r.1, .int .i64 r.2]) := by
  unfold weave_Begins at h
  refine HC.of_body tab_ok (res := [.tmp 6, .tmp 7]) Try.func46 rfl (by kernel_rfl) rfl (nt := 31) rfl (by decide) (by simp) ?_
  refine AW.seq ?_
  refine AW.ops ?_
  refine AO.allF tab_ok (by decide) [(1, .sl (.int .i64) u), (2, .sl (.int .i64) w), (3, .bp 3 0)] [(3, .box 24 [.int .i64 l.1, .sl (.pair (.int .i64) (.int .i64)) l.2])] (by (simp only [go_sem]) <;> (repeat' with_reducible apply And.intro) <;> first | assumption | rfl | omega | (unfold maxLen; omega)) ?_
  refine athen_n ?_
  refine AW.seq ?_
  refine AW.ops ?_
  refine AO.segF tab_ok 4 (by decide) [(1, .sl (.int .i64) u), (2, .sl (.int .i64) w), (13, .agg [.int .i64 l.1, .sl (.pair (.int .i64) (.int .i64)) l.2]), (16, .own 16)] [(16, .arr 25 (.sl (.int .i64)) [u, w])] (by (simp only [go_sem]) <;> (repeat' with_reducible apply And.intro) <;> first | assumption | rfl | omega | (unfold maxLen; omega)) ?_
  obtain ⟨v0, hv1, h⟩ := Option.bind_eq_some_iff.1 h
  refine AO.call tab_ok (by decide) rfl rfl rfl (fun _ h => h) [16] [] (hc_weave_checked l [u, w] hv1) rfl (by (simp only [go_sem]) <;> (repeat' with_reducible apply And.intro) <;> first | assumption | rfl | omega | (unfold maxLen; omega)) (by (simp only [go_sem]) <;> (repeat' with_reducible apply And.intro) <;> first | assumption | rfl | omega | (unfold maxLen; omega)) [(1, .sl (.int .i64) u), (2, .sl (.int .i64) w), (17, .tup [.agg (cellsX T59 v0.1), .int .i64 v0.2])] [] (by (simp only [go_sem]) <;> (repeat' with_reducible apply And.intro) <;> first | assumption | rfl | omega | (unfold maxLen; omega)) ?_
  refine AO.allF tab_ok (by decide) [(1, .sl (.int .i64) u), (2, .sl (.int .i64) w), (8, .bp 8 0), (9, .int .i64 v0.2)] [(8, .box 59 (cellsX T59 v0.1))] (by (simp only [go_sem]) <;> (repeat' with_reducible apply And.intro) <;> first | assumption | rfl | omega | (unfold maxLen; omega)) ?_
  refine athen_n ?_
  refine AW.seq ?_
  refine AW.seq ?_
  refine AW.ops ?_
  refine AO.allF tab_ok (by decide) [(1, .sl (.int .i64) u), (2, .sl (.int .i64) w), (8, .bp 8 0), (9, .int .i64 v0.2), (21, .bool (!(decide (v0.2 = 0))))] [(8, .box 59 (cellsX T59 v0.1))] (by (simp only [go_sem]) <;> (repeat' with_reducible apply And.intro) <;> first | assumption | rfl | omega | (unfold maxLen; omega)) ?_
  refine athen_n ?_
  refine AW.cond (b := (!(decide (v0.2 = 0)))) rfl (fun hb2 => ?_) (fun hb2 => ?_)
  · rw [if_pos hb2] at h
    refine AW.seq ?_
    refine AW.ops ?_
    refine AO.allF tab_ok (by decide) [(6, .bool false), (7, .int .i64 v0.2)] [] (by (simp only [go_sem, hb2]) <;> (repeat' with_reducible apply And.intro) <;> first | assumption | rfl | omega | (unfold maxLen; omega)) ?_
    refine athen_n ?_
    refine AW.ret ?_
    refine athen_r ?_
    obtain rfl := Option.some.inj h
    exact ⟨rfl, [], [], [], rfl, (by (simp only [go_sem, hb2]) <;> (repeat' with_reducible apply And.intro) <;> first | assumption | rfl | omega | (unfold maxLen; omega))⟩
  · rw [if_neg (Bool.eq_false_iff.1 hb2)] at h
    refine AW.skip ?_
    refine athen_n ?_
    refine AW.seq ?_
    refine AW.ops ?_
    refine AO.segF tab_ok 3 (by decide) [(24, .agg (cellsX T59 v0.1)), (25, .sl (.int .i64) u), (26, .sl (.int .i64) w)] [] (by (simp only [go_sem, hb2]) <;> (repeat' with_reducible apply And.intro) <;> first | assumption | rfl | omega | (unfold maxLen; omega)) ?_
    obtain ⟨v0_2, hv3, h⟩ := Option.bind_eq_some_iff.1 h
    refine AO.call tab_ok (by decide) rfl rfl rfl (fun _ h => h) [] [] (hc_weave_ties_rest v0.1 u w hv3) rfl (by (simp only [go_sem, hb2]) <;> (repeat' with_reducible apply And.intro) <;> first | assumption | rfl | omega | (unfold maxLen; omega)) (by (simp only [go_sem, hb2]) <;> (repeat' with_reducible apply And.intro) <;> first | assumption | rfl | omega | (unfold maxLen; omega)) [(27, .tup [.sl (.int .i64) v0_2.1, .bool v0_2.2])] [] (by (simp only [go_sem, hb2]) <;> (repeat' with_reducible apply And.intro) <;> first | assumption | rfl | omega | (unfold maxLen; omega)) ?_
    refine AO.allF tab_ok (by decide) [(11, .bool v0_2.2)] [] (by (simp only [go_sem, hb2]) <;> (repeat' with_reducible apply And.intro) <;> first | assumption | rfl | omega | (unfold maxLen; omega)) ?_
    refine athen_n ?_
    refine AW.seq ?_
    refine AW.ops ?_
    refine AO.allF tab_ok (by decide) [(6, .bool v0_2.2), (7, .int .i64 0)] [] (by (simp only [go_sem, hb2]) <;> (repeat' with_reducible apply And.intro) <;> first | assumption | rfl | omega | (unfold maxLen; omega)) ?_
    refine athen_n ?_
    refine AW.ret ?_
    obtain rfl := Option.some.inj h
    exact ⟨rfl, [], [], [], rfl, (by (simp only [go_sem, hb2]) <;> (repeat' with_reducible apply And.intro) <;> first | assumption | rfl | omega | (unfold maxLen; omega))⟩

set_option maxRecDepth 100000 in
set_option maxHeartbeats 2000000 in
theorem hc_weave_Rest (l : Int × (List (Int × Int))) (u : List Int) (w : List Int) {r : (List Int) × Int} (h : weave_Rest l u w = some r) : HC Try.prog 48 [] [.agg [.int .i64 l.1, .sl (.pair (.int .i64) (.int .i64)) l.2], .sl (.int .i64) u, .sl (.int .i64) w] [] (.tup [.sl (.int .i64) r.1, .int .i64 r.2]) := by
  unfold weave_Rest at h
  refine HC.of_body tab_ok (res := [.tmp 6, .tmp 7]) Try.func48 rfl (by kernel_rfl) rfl (nt := 35) rfl (by decide) (by simp) ?_
  refine AW.seq ?_
  refine AW.ops ?_
  refine AO.allF tab_ok (by decide) [(1, .sl (.int .i64) u), (2, .sl (.int .i64) w), (3, .bp 3 0)] [(3, .box 24 [.int .i64 l.1, .sl (.pair (.int .i64) (.int .i64)) l.2])] (by (simp only [go_sem]) <;> (repeat' with_reducible apply And.intro) <;> first | assumption | rfl | omega | (unfold maxLen; omega)) ?_
  refine athen_n ?_
  refine AW.seq ?_
  refine AW.ops ?_
  refine AO.segF tab_ok 4 (by decide) [(1, .sl (.int .i64) u), (2, .sl (.int .i64) w), (13, .agg [.int .i64 l.1, .sl (.pair (.int .i64) (.int .i64)) l.2]), (16, .own 16)] [(16, .arr 25 (.sl (.int .i64)) [u, w])] (by (simp only [go_sem]) <;> (repeat' with_reducible apply And.intro) <;> first | assumption | rfl | omega | (unfold maxLen; omega)) ?_
  obtain ⟨v0, hv1, h⟩ := Option.bind_eq_some_iff.1 h
  refine AO.call tab_ok (by decide) rfl rfl rfl (fun _ h => h) [16] [] (hc_weave_checked l [u, w] hv1) rfl (by (simp only [go_sem]) <;> (repeat' with_reducible apply And.intro) <;> first | assumption | rfl | omega | (unfold maxLen; omega)) (by (simp only [go_sem]) <;> (repeat' with_reducible apply And.intro) <;> first | assumption | rfl | omega | (unfold maxLen; omega)) [(1, .sl (.int .i64) u), (2, .sl (.int .i64) w), (17, .tup [.agg (cellsX T59 v0.1), .int .i64 v0.2])] [] (by (simp only [go_sem]) <;> (repeat' with_reducible apply And.intro) <;> first | assumption | rfl | omega | (unfold maxLen; omega)) ?_
  refine AO.allF tab_ok (by decide) [(1, .sl (.int .i64) u), (2, .sl (.int .i64) w), (8, .bp 8 0), (9, .int .i64 v0.2)] [(8, .box 59 (cellsX T59 v0.1))] (by (simp only [go_sem]) <;> (repeat' with_reducible apply And.intro) <;> first | assumption | rfl | omega | (unfold maxLen; omega)) ?_
  refine athen_n ?_
  refine AW.seq ?_
  refine AW.seq ?_
  refine AW.ops ?_
  refine AO.allF tab_ok (by decide) [(1, .sl (.int .i64) u), (2, .sl (.int .i64) w), (8, .bp 8 0), (9, .int .i64 v0.2), (21, .bool (!(decide (v0.2 = 0))))] [(8, .box 59 (cellsX T59 v0.1))] (by (simp only [go_sem]) <;> (repeat' with_reducible apply And.intro) <;> first | assumption | rfl | omega | (unfold maxLen; omega)) ?_
  refine athen_n ?_
  refine AW.cond (b := (!(decide (v0.2 = 0)))) rfl (fun hb2 => ?_) (fun hb2 => ?_)
  · rw [if_pos hb2] at h
    refine AW.seq ?_
    refine AW.ops ?_
    refine AO.allF tab_ok (by decide) [(6, .cv (.slice none 0 0)), (7, .int .i64 v0.2)] [] (by (simp only [go_sem, hb2]) <;> (repeat' with_reducible apply And.intro) <;> first | assumption | rfl | omega | (unfold maxLen; omega)) ?_
    refine athen_n ?_
    refine AW.ret ?_
    refine athen_r ?_
    obtain rfl := Option.some.inj h
    exact ⟨rfl, [], [], [], rfl, (by (simp only [go_sem, hb2]) <;> (repeat' with_reducible apply And.intro) <;> first | assumption | rfl | omega | (unfold maxLen; omega))⟩
  · rw [if_neg (Bool.eq_false_iff.1 hb2)] at h
    refine AW.skip ?_
    refine athen_n ?_
    refine AW.seq ?_
    refine AW.ops ?_
    refine AO.segF tab_ok 3 (by decide) [(8, .bp 8 0), (24, .agg (cellsX T59 v0.1)), (25, .sl (.int .i64) u), (26, .sl (.int .i64) w)] [(8, .box 59 (cellsX T59 v0.1))] (by (simp only [go_sem, hb2]) <;> (repeat' with_reducible apply And.intro) <;> first | assumption | rfl | omega | (unfold maxLen; omega)) ?_
    obtain ⟨v0_2, hv3, h⟩ := Option.bind_eq_some_iff.1 h
    refine AO.call tab_ok (by decide) rfl rfl rfl (fun _ h => h) [] [] (hc_weave_ties_rest v0.1 u w hv3) rfl (by (simp only [go_sem, hb2]) <;> (repeat' with_reducible apply And.intro) <;> first | assumption | rfl | omega | (unfold maxLen; omega)) (by (simp only [go_sem, hb2]) <;> (repeat' with_reducible apply And.intro) <;> first | assumption | rfl | omega | (unfold maxLen; omega)) [(8, .bp 8 0), (27, .tup [.sl (.int .i64) v0_2.1, .bool v0_2.2])] [(8, .box 59 (cellsX T59 v0.1))] (by (simp only [go_sem, hb2]) <;> (repeat' with_reducible apply And.intro) <;> first | assumption | rfl | omega | (unfold maxLen; omega)) ?_
    refine AO.allF tab_ok (by decide) [(8, .bp 8 0), (10, .sl (.int .i64) v0_2.1), (11, .bool v0_2.2)] [(8, .box 59 (cellsX T59 v0.1))] (by (simp only [go_sem, hb2]) <;> (repeat' with_reducible apply And.intro) <;> first | assumption | rfl | omega | (unfold maxLen; omega)) ?_
    refine athen_n ?_
    refine AW.seq ?_
    refine AW.seq ?_
    refine AW.ops ?_
    refine AO.allF tab_ok (by decide) [(8, .bp 8 0), (10, .sl (.int .i64) v0_2.1), (31, .bool (!v0_2.2))] [(8, .box 59 (cellsX T59 v0.1))] (by (simp only [go_sem, hb2]) <;> (repeat' with_reducible apply And.intro) <;> first | assumption | rfl | omega | (unfold maxLen; omega)) ?_
    refine athen_n ?_
    refine AW.cond (b := (!v0_2.2)) rfl (fun hb4 => ?_) (fun hb4 => ?_)
    · rw [if_pos hb4] at h
      refine AW.seq ?_
      refine AW.ops ?_
      refine AO.allF tab_ok (by decide) [(6, .cv (.slice none 0 0)), (7, .int .i64 5)] [] (by (simp only [go_sem, hb2, hb4]) <;> (repeat' with_reducible apply And.intro) <;> first | assumption | rfl | omega | (unfold maxLen; omega)) ?_
      refine athen_n ?_
      refine AW.ret ?_
      refine athen_r ?_
      obtain rfl := Option.some.inj h
      exact ⟨rfl, [], [], [], rfl, (by (simp only [go_sem, hb2, hb4]) <;> (repeat' with_reducible apply And.intro) <;> first | assumption | rfl | omega | (unfold maxLen; omega))⟩
    · rw [if_neg (Bool.eq_false_iff.1 hb4)] at h
      refine AW.skip ?_
      refine athen_n ?_
      refine AW.seq ?_
      refine AW.ops ?_
      refine AO.segF tab_ok 2 (by decide) [(32, .agg (cellsX T59 v0.1)), (33, .sl (.int .i64) v0_2.1)] [] (by (simp only [go_sem, hb2, hb4]) <;> (repeat' with_reducible apply And.intro) <;> first | assumption | rfl | omega | (unfold maxLen; omega)) ?_
      obtain ⟨v0_3, hv5, h⟩ := Option.bind_eq_some_iff.1 h
      refine AO.call tab_ok (by decide) rfl rfl rfl (fun _ h => h) [] [] (hc_weave_ties_first v0.1 v0_2.1 hv5) rfl (by (simp only [go_sem, hb2, hb4]) <;> (repeat' with_reducible apply And.intro) <;> first | assumption | rfl | omega | (unfold maxLen; omega)) (by (simp only [go_sem, hb2, hb4]) <;> (repeat' with_reducible apply And.intro) <;> first | assumption | rfl | omega | (unfold maxLen; omega)) [(34, .sl (.int .i64) v0_3)] [] (by (simp only [go_sem, hb2, hb4]) <;> (repeat' with_reducible apply And.intro) <;> first | assumption | rfl | omega | (unfold maxLen; omega)) ?_
      refine AO.allF tab_ok (by decide) [(6, .sl (.int .i64) v0_3), (7, .int .i64 0)] [] (by (simp only [go_sem, hb2, hb4]) <;> (repeat' with_reducible apply And.intro) <;> first | assumption | rfl | omega | (unfold maxLen; omega)) ?_
      refine athen_n ?_
      refine AW.ret ?_
      obtain rfl := Option.some.inj h
      exact ⟨rfl, [], [], [], rfl, (by (simp only [go_sem, hb2, hb4]) <;> (repeat' with_reducible apply And.intro) <;> first | assumption | rfl | omega | (unfold maxLen; omega))⟩

set_option maxRecDepth 100000 in
set_option maxHeartbeats 2000000 in
theorem hc_lineallaw03_valid (l : Int × (List (Int × Int))) (words : List (List Int)) {r : Bool} (h : lineallaw03_valid l words = some r) : HC Try.prog 54 [] [.agg [.int .i64 l.1, .sl (.pair (.int .i64) (.int .i64)) l.2], .sl (.sl (.int .i64)) words] [] (.bool r) := by
  unfold lineallaw03_valid at h
  refine HC.of_body tab_ok (res := [.tmp 4]) Try.func54 rfl (by kernel_rfl) rfl (nt := 26) rfl (by decide) (by simp) ?_
  refine AW.seq ?_
  refine AW.ops ?_
  refine AO.allF tab_ok (by decide) [(1, .sl (.sl (.int .i64)) words), (2, .bp 2 0)] [(2, .box 24 [.int .i64 l.1, .sl (.pair (.int .i64) (.int .i64)) l.2])] (by (simp only [go_sem]) <;> (repeat' with_reducible apply And.intro) <;> first | assumption | rfl | omega | (unfold maxLen; omega)) ?_
  refine athen_n ?_
  refine AW.seq ?_
  refine AW.seq ?_
  refine AW.ops ?_
  refine AO.segF tab_ok 2 (by decide) [(1, .sl (.sl (.int .i64)) words), (2, .bp 2 0), (7, .agg [.int .i64 l.1, .sl (.pair (.int .i64) (.int .i64)) l.2]), (8, .sl (.sl (.int .i64)) words)] [(2, .box 24 [.int .i64 l.1, .sl (.pair (.int .i64) (.int .i64)) l.2])] (by (simp only [go_sem]) <;> (repeat' with_reducible apply And.intro) <;> first | assumption | rfl | omega | (unfold maxLen; omega)) ?_
  obtain ⟨v0, hv1, h⟩ := Option.bind_eq_some_iff.1 h
  refine AO.call tab_ok (by decide) rfl rfl rfl (fun _ h => h) [] [] (hc_lineallaw03_Long l words hv1) rfl (by (simp only [go_sem]) <;> (repeat' with_reducible apply And.intro) <;> first | assumption | rfl | omega | (unfold maxLen; omega)) (by (simp only [go_sem]) <;> (repeat' with_reducible apply And.intro) <;> first | assumption | rfl | omega | (unfold maxLen; omega)) [(1, .sl (.sl (.int .i64)) words), (2, .bp 2 0), (9, .bool v0)] [(2, .box 24 [.int .i64 l.1, .sl (.pair (.int .i64) (.int .i64)) l.2])] (by (simp only [go_sem]) <;> (repeat' with_reducible apply And.intro) <;> first | assumption | rfl | omega | (unfold maxLen; omega)) ?_
  refine AO.segF tab_ok 1 (by decide) [(1, .sl (.sl (.int .i64)) words), (2, .bp 2 0), (10, .bool v0)] [(2, .box 24 [.int .i64 l.1, .sl (.pair (.int .i64) (.int .i64)) l.2])] (by (simp only [go_sem]) <;> (repeat' with_reducible apply And.intro) <;> first | assumption | rfl | omega | (unfold maxLen; omega)) ?_
  rcases Bool.eq_false_or_eq_true v0 with hb2 | hb2
  · rw [if_pos hb2] at h
    refine AO.weaken (s' := ⟨fr [(1, .sl (.sl (.int .i64)) words), (2, .bp 2 0), (10, .bool true)], hpGet [(2, .box 24 [.int .i64 l.1, .sl (.pair (.int .i64) (.int .i64)) l.2])], gt⟩) (Wk.to (by (simp only [go_sem, hb2]) <;> (repeat' with_reducible apply And.intro) <;> first | assumption | rfl | omega | (unfold maxLen; omega))) ?_
    refine AO.allF tab_ok (by decide) [(1, .sl (.sl (.int .i64)) words), (2, .bp 2 0), (14, .bool true)] [(2, .box 24 [.int .i64 l.1, .sl (.pair (.int .i64) (.int .i64)) l.2])] (by (simp only [go_sem, hb2]) <;> (repeat' with_reducible apply And.intro) <;> first | assumption | rfl | omega | (unfold maxLen; omega)) ?_
    refine athen_n ?_
    refine AW.cond (b := true) rfl (fun _ => ?_) (fun hb3 => by cases hb3)
    refine AW.seq ?_
    refine AW.ops ?_
    refine AO.allF tab_ok (by decide) [(4, .bool false)] [] (by (simp only [go_sem, hb2]) <;> (repeat' with_reducible apply And.intro) <;> first | assumption | rfl | omega | (unfold maxLen; omega)) ?_
    refine athen_n ?_
    refine AW.ret ?_
    refine athen_r ?_
    obtain rfl := Option.some.inj h
    exact ⟨rfl, [], [], [], rfl, (by (simp only [go_sem, hb2]) <;> (repeat' with_reducible apply And.intro) <;> first | assumption | rfl | omega | (unfold maxLen; omega))⟩
  · rw [if_neg (Bool.eq_false_iff.1 hb2)] at h
    refine AO.weaken (s' := ⟨fr [(1, .sl (.sl (.int .i64)) words), (2, .bp 2 0), (10, .bool false)], hpGet [(2, .box 24 [.int .i64 l.1, .sl (.pair (.int .i64) (.int .i64)) l.2])], gt⟩) (Wk.to (by (simp only [go_sem, hb2]) <;> (repeat' with_reducible apply And.intro) <;> first | assumption | rfl | omega | (unfold maxLen; omega))) ?_
    refine AO.segF tab_ok 1 (by decide) [(1, .sl (.sl (.int .i64)) words), (2, .bp 2 0), (10, .bool false), (11, .agg [.int .i64 l.1, .sl (.pair (.int .i64) (.int .i64)) l.2])] [(2, .box 24 [.int .i64 l.1, .sl (.pair (.int .i64) (.int .i64)) l.2])] (by (simp only [go_sem, hb2]) <;> (repeat' with_reducible apply And.intro) <;> first | assumption | rfl | omega | (unfold maxLen; omega)) ?_
    obtain ⟨v0_2, hv4, h⟩ := Option.bind_eq_some_iff.1 h
    refine AO.call tab_ok (by decide) rfl rfl rfl (fun _ h => ⟨fun _ => h, fun hn => absurd rfl hn⟩) [] [] (hc_linealref03_Valid l hv4) rfl (by (simp only [go_sem, hb2]) <;> (repeat' with_reducible apply And.intro) <;> first | assumption | rfl | omega | (unfold maxLen; omega)) (by (simp only [go_sem, hb2]) <;> (repeat' with_reducible apply And.intro) <;> first | assumption | rfl | omega | (unfold maxLen; omega)) [(1, .sl (.sl (.int .i64)) words), (2, .bp 2 0), (10, .bool false), (12, .bool v0_2)] [(2, .box 24 [.int .i64 l.1, .sl (.pair (.int .i64) (.int .i64)) l.2])] (by (simp only [go_sem, hb2]) <;> (repeat' with_reducible apply And.intro) <;> first | assumption | rfl | omega | (unfold maxLen; omega)) ?_
    refine AO.allF tab_ok (by decide) [(1, .sl (.sl (.int .i64)) words), (2, .bp 2 0), (14, .bool (!v0_2))] [(2, .box 24 [.int .i64 l.1, .sl (.pair (.int .i64) (.int .i64)) l.2])] (by (simp only [go_sem, hb2]) <;> (repeat' with_reducible apply And.intro) <;> first | assumption | rfl | omega | (unfold maxLen; omega)) ?_
    refine athen_n ?_
    refine AW.cond (b := (!v0_2)) rfl (fun hb5 => ?_) (fun hb5 => ?_)
    · rw [if_pos hb5] at h
      refine AW.seq ?_
      refine AW.ops ?_
      refine AO.allF tab_ok (by decide) [(4, .bool false)] [] (by (simp only [go_sem, hb2, hb5]) <;> (repeat' with_reducible apply And.intro) <;> first | assumption | rfl | omega | (unfold maxLen; omega)) ?_
      refine athen_n ?_
      refine AW.ret ?_
      refine athen_r ?_
      obtain rfl := Option.some.inj h
      exact ⟨rfl, [], [], [], rfl, (by (simp only [go_sem, hb2, hb5]) <;> (repeat' with_reducible apply And.intro) <;> first | assumption | rfl | omega | (unfold maxLen; omega))⟩
    · rw [if_neg (Bool.eq_false_iff.1 hb5)] at h
      refine AW.skip ?_
      refine athen_n ?_
      refine AW.have1 (fun _ : Unit => lineallaw03_valid_k1 = some r) (fun _ => ⟨fr [], hpGet [], gt⟩) (fun _ h => ?_) (fun hk_lineallaw03_valid_k1 => ?_)
      · unfold lineallaw03_valid_k1 at h
        refine AW.seq ?_
        refine AW.ops ?_
        refine AO.allF tab_ok (by decide) [(4, .bool true)] [] (by (simp only [go_sem, hb2, hb5]) <;> (repeat' with_reducible apply And.intro) <;> first | assumption | rfl | omega | (unfold maxLen; omega)) ?_
        refine athen_n ?_
        refine AW.ret ?_
        obtain rfl := Option.some.inj h
        exact ⟨rfl, [], [], [], rfl, (by (simp only [go_sem, hb2, hb5]) <;> (repeat' with_reducible apply And.intro) <;> first | assumption | rfl | omega | (unfold maxLen; omega))⟩
      · refine AW.seq ?_
        refine AW.seq ?_
        refine AW.ops ?_
        refine AO.allF tab_ok (by decide) [(2, .bp 2 0), (15, .sl (.sl (.int .i64)) words), (16, .int .i64 (words.length : Int)), (17, .int .i64 0)] [(2, .box 24 [.int .i64 l.1, .sl (.pair (.int .i64) (.int .i64)) l.2])] (by (simp only [go_sem, hb2, hb5]) <;> (repeat' with_reducible apply And.intro) <;> first | assumption | rfl | omega | (unfold maxLen; omega)) ?_
        refine athen_n ?_
        refine AW.block ?_
        obtain ⟨rv10, hw6, ho7⟩ := Option.bind_eq_some_iff.1 h
        refine AW.loopO (lineallaw03_valid_b1 l words) (fun st1 => ⟨fr [(2, .bp 2 0), (15, .sl (.sl (.int .i64)) words), (16, .int .i64 (words.length : Int)), (17, .int .i64 st1)], hpGet [(2, .box 24 [.int .i64 l.1, .sl (.pair (.int .i64) (.int .i64)) l.2])], gt⟩) 0 hw6 (Wk.le [] [] [] rfl (by (simp only [go_sem, hb2, hb5]) <;> (repeat' with_reducible apply And.intro) <;> first | assumption | rfl | omega | (unfold maxLen; omega)) (by (simp only [go_sem, hb2, hb5]) <;> (repeat' with_reducible apply And.intro) <;> first | assumption | rfl | omega | (unfold maxLen; omega))) ?_
        intro st1 x9 h hd8
        unfold lineallaw03_valid_b1 at h
        refine AW.seq ?_
        refine AW.ops ?_
        refine AO.allF tab_ok (by decide) [(2, .bp 2 0), (15, .sl (.sl (.int .i64)) words), (16, .int .i64 (words.length : Int)), (17, .int .i64 st1), (18, .bool (decide (st1 < (words.length : Int))))] [(2, .box 24 [.int .i64 l.1, .sl (.pair (.int .i64) (.int .i64)) l.2])] (by (simp only [go_sem, hb2, hb5]) <;> (repeat' with_reducible apply And.intro) <;> first | assumption | rfl | omega | (unfold maxLen; omega)) ?_
        refine athen_n ?_
        refine AW.seq ?_
        refine AW.cond (b := (decide (st1 < (words.length : Int)))) rfl (fun hb11 => ?_) (fun hb11 => ?_)
        · rw [if_pos hb11] at h
          refine AW.skip ?_
          refine athen_n ?_
          refine AW.seq ?_
          refine AW.block ?_
          refine AW.seq ?_
          refine AW.ops ?_
          obtain ⟨c12, h⟩ := ck_some.1 h
          obtain ⟨c13, h⟩ := ck_some.1 h
          refine AO.allF tab_ok (by decide) [(2, .bp 2 0), (6, .sl (.int .i64) (words.getD st1.toNat [])), (15, .sl (.sl (.int .i64)) words), (16, .int .i64 (words.length : Int)), (17, .int .i64 st1)] [(2, .box 24 [.int .i64 l.1, .sl (.pair (.int .i64) (.int .i64)) l.2])] (by (simp only [go_sem, hb2, hb5, hb11]) <;> (repeat' with_reducible apply And.intro) <;> first | assumption | rfl | omega | (unfold maxLen; omega)) ?_
          refine athen_n ?_
          refine AW.seq ?_
          refine AW.ops ?_
          refine AO.segF tab_ok 2 (by decide) [(2, .bp 2 0), (15, .sl (.sl (.int .i64)) words), (16, .int .i64 (words.length : Int)), (17, .int .i64 st1), (21, .agg [.int .i64 l.1, .sl (.pair (.int .i64) (.int .i64)) l.2]), (22, .sl (.int .i64) (words.getD st1.toNat []))] [(2, .box 24 [.int .i64 l.1, .sl (.pair (.int .i64) (.int .i64)) l.2])] (by (simp only [go_sem, hb2, hb5, hb11]) <;> (repeat' with_reducible apply And.intro) <;> first | assumption | rfl | omega | (unfold maxLen; omega)) ?_
          obtain ⟨v0_3, hv14, h⟩ := Option.bind_eq_some_iff.1 h
          refine AO.call tab_ok (by decide) rfl rfl rfl (fun _ h => h) [] [] (hc_linealref03_IsWord l (words.getD st1.toNat []) hv14) rfl (by (simp only [go_sem, hb2, hb5, hb11]) <;> (repeat' with_reducible apply And.intro) <;> first | assumption | rfl | omega | (unfold maxLen; omega)) (by (simp only [go_sem, hb2, hb5, hb11]) <;> (repeat' with_reducible apply And.intro) <;> first | assumption | rfl | omega | (unfold maxLen; omega)) [(2, .bp 2 0), (15, .sl (.sl (.int .i64)) words), (16, .int .i64 (words.length : Int)), (17, .int .i64 st1), (23, .bool v0_3)] [(2, .box 24 [.int .i64 l.1, .sl (.pair (.int .i64) (.int .i64)) l.2])] (by (simp only [go_sem, hb2, hb5, hb11]) <;> (repeat' with_reducible apply And.intro) <;> first | assumption | rfl | omega | (unfold maxLen; omega)) ?_
          refine AO.allF tab_ok (by decide) [(2, .bp 2 0), (15, .sl (.sl (.int .i64)) words), (16, .int .i64 (words.length : Int)), (17, .int .i64 st1), (24, .bool (!v0_3))] [(2, .box 24 [.int .i64 l.1, .sl (.pair (.int .i64) (.int .i64)) l.2])] (by (simp only [go_sem, hb2, hb5, hb11]) <;> (repeat' with_reducible apply And.intro) <;> first | assumption | rfl | omega | (unfold maxLen; omega)) ?_
          refine athen_n ?_
          refine AW.cond (b := (!v0_3)) rfl (fun hb15 => ?_) (fun hb15 => ?_)
          · rw [if_pos hb15] at h
            refine AW.seq ?_
            refine AW.ops ?_
            refine AO.allF tab_ok (by decide) [(4, .bool false)] [] (by (simp only [go_sem, hb2, hb5, hb11, hb15]) <;> (repeat' with_reducible apply And.intro) <;> first | assumption | rfl | omega | (unfold maxLen; omega)) ?_
            refine athen_n ?_
            refine AW.ret ?_
            refine ablock_r ?_
            refine athen_r ?_
            obtain rfl := Option.some.inj h
            rw [← hd8 _ rfl] at ho7
            have h := ho7
            try simp only at h
            refine athen_r ?_
            refine ablock_r ?_
            refine athen_r ?_
            obtain rfl := Option.some.inj h
            exact ⟨rfl, [], [], [], rfl, (by (simp only [go_sem, hb2, hb5, hb11, hb15]) <;> (repeat' with_reducible apply And.intro) <;> first | assumption | rfl | omega | (unfold maxLen; omega))⟩
          · rw [if_neg (Bool.eq_false_iff.1 hb15)] at h
            refine AW.skip ?_
            refine ablock_n ?_
            refine athen_n ?_
            refine AW.ops ?_
            obtain ⟨c16, h⟩ := ck_some.1 h
            refine AO.allF tab_ok (by decide) [(2, .bp 2 0), (15, .sl (.sl (.int .i64)) words), (16, .int .i64 (words.length : Int)), (17, .int .i64 (st1 + 1))] [(2, .box 24 [.int .i64 l.1, .sl (.pair (.int .i64) (.int .i64)) l.2])] (by (simp only [go_sem, hb2, hb5, hb11, hb15]) <;> (repeat' with_reducible apply And.intro) <;> first | assumption | rfl | omega | (unfold maxLen; omega)) ?_
            obtain rfl := Option.some.inj h
            exact ⟨_, rfl, Wk.le [] [] [] rfl (by (simp only [go_sem, hb2, hb5, hb11, hb15]) <;> (repeat' with_reducible apply And.intro) <;> first | assumption | rfl | omega | (unfold maxLen; omega)) (by (simp only [go_sem, hb2, hb5, hb11, hb15]) <;> (repeat' with_reducible apply And.intro) <;> first | assumption | rfl | omega | (unfold maxLen; omega))⟩
        · rw [if_neg (Bool.eq_false_iff.1 hb11)] at h
          refine AW.exit ?_
          refine athen_e ?_
          obtain rfl := Option.some.inj h
          rw [← hd8 _ rfl] at ho7
          have h := ho7
          try simp only at h
          refine athen_e ?_
          refine ablock_s ?_
          refine athen_n ?_
          exact AW.weaken (Wk.le [] [] [] rfl (by (simp only [go_sem, hb2, hb5, hb11]) <;> (repeat' with_reducible apply And.intro) <;> first | assumption | rfl | omega | (unfold maxLen; omega)) (by (simp only [go_sem, hb2, hb5, hb11]) <;> (repeat' with_reducible apply And.intro) <;> first | assumption | rfl | omega | (unfold maxLen; omega))) (hk_lineallaw03_valid_k1 () h)

set_option maxRecDepth 100000 in
set_option maxHeartbeats 2000000 in
theorem hc_weave_First (l : Int × (List (Int × Int))) (w : List Int) {r : (List Int) × Int} (h : weave_First l w = some r) : HC Try.prog 34 [] [.agg [.int .i64 l.1, .sl (.pair (.int .i64) (.int .i64)) l.2], .sl (.int .i64) w] [] (.tup [.sl (.int .i64) r.1, .int .i64 r.2]) := by
  unfold weave_First at h
  refine HC.of_body tab_ok (res := [.tmp 4, .tmp 5]) Try.func34 rfl (by kernel_rfl) rfl (nt := 21) rfl (by decide) (by simp) ?_
  refine AW.seq ?_
  refine AW.ops ?_
  refine AO.allF tab_ok (by decide) [(1, .sl (.int .i64) w), (2, .bp 2 0)] [(2, .box 24 [.int .i64 l.1, .sl (.pair (.int .i64) (.int .i64)) l.2])] (by (simp only [go_sem]) <;> (repeat' with_reducible apply And.intro) <;> first | assumption | rfl | omega | (unfold maxLen; omega)) ?_
  refine athen_n ?_
  refine AW.seq ?_
  refine AW.ops ?_
  refine AO.segF tab_ok 3 (by decide) [(1, .sl (.int .i64) w), (9, .agg [.int .i64 l.1, .sl (.pair (.int .i64) (.int .i64)) l.2]), (11, .own 11)] [(11, .arr 25 (.sl (.int .i64)) [w])] (by (simp only [go_sem]) <;> (repeat' with_reducible apply And.intro) <;> first | assumption | rfl | omega | (unfold maxLen; omega)) ?_
  obtain ⟨v0, hv1, h⟩ := Option.bind_eq_some_iff.1 h
  refine AO.call tab_ok (by decide) rfl rfl rfl (fun _ h => h) [11] [] (hc_weave_checked l [w] hv1) rfl (by (simp only [go_sem]) <;> (repeat' with_reducible apply And.intro) <;> first | assumption | rfl | omega | (unfold maxLen; omega)) (by (simp only [go_sem]) <;> (repeat' with_reducible apply And.intro) <;> first | assumption | rfl | omega | (unfold maxLen; omega)) [(1, .sl (.int .i64) w), (12, .tup [.agg (cellsX T59 v0.1), .int .i64 v0.2])] [] (by (simp only [go_sem]) <;> (repeat' with_reducible apply And.intro) <;> first | assumption | rfl | omega | (unfold maxLen; omega)) ?_
  refine AO.allF tab_ok (by decide) [(1, .sl (.int .i64) w), (6, .bp 6 0), (7, .int .i64 v0.2)] [(6, .box 59 (cellsX T59 v0.1))] (by (simp only [go_sem]) <;> (repeat' with_reducible apply And.intro) <;> first | assumption | rfl | omega | (unfold maxLen; omega)) ?_
  refine athen_n ?_
  refine AW.seq ?_
  refine AW.seq ?_
  refine AW.ops ?_
  refine AO.allF tab_ok (by decide) [(1, .sl (.int .i64) w), (6, .bp 6 0), (7, .int .i64 v0.2), (16, .bool (!(decide (v0.2 = 0))))] [(6, .box 59 (cellsX T59 v0.1))] (by (simp only [go_sem]) <;> (repeat' with_reducible apply And.intro) <;> first | assumption | rfl | omega | (unfold maxLen; omega)) ?_
  refine athen_n ?_
  refine AW.cond (b := (!(decide (v0.2 = 0)))) rfl (fun hb2 => ?_) (fun hb2 => ?_)
  · rw [if_pos hb2] at h
    refine AW.seq ?_
    refine AW.ops ?_
    refine AO.allF tab_ok (by decide) [(4, .cv (.slice none 0 0)), (5, .int .i64 v0.2)] [] (by (simp only [go_sem, hb2]) <;> (repeat' with_reducible apply And.intro) <;> first | assumption | rfl | omega | (unfold maxLen; omega)) ?_
    refine athen_n ?_
    refine AW.ret ?_
    refine athen_r ?_
    obtain rfl := Option.some.inj h
    exact ⟨rfl, [], [], [], rfl, (by (simp only [go_sem, hb2]) <;> (repeat' with_reducible apply And.intro) <;> first | assumption | rfl | omega | (unfold maxLen; omega))⟩
  · rw [if_neg (Bool.eq_false_iff.1 hb2)] at h
    refine AW.skip ?_
    refine athen_n ?_
    refine AW.seq ?_
    refine AW.ops ?_
    refine AO.segF tab_ok 2 (by decide) [(18, .agg (cellsX T59 v0.1)), (19, .sl (.int .i64) w)] [] (by (simp only [go_sem, hb2]) <;> (repeat' with_reducible apply And.intro) <;> first | assumption | rfl | omega | (unfold maxLen; omega)) ?_
    obtain ⟨v0_2, hv3, h⟩ := Option.bind_eq_some_iff.1 h
    refine AO.call tab_ok (by decide) rfl rfl rfl (fun _ h => h) [] [] (hc_weave_ties_first v0.1 w hv3) rfl (by (simp only [go_sem, hb2]) <;> (repeat' with_reducible apply And.intro) <;> first | assumption | rfl | omega | (unfold maxLen; omega)) (by (simp only [go_sem, hb2]) <;> (repeat' with_reducible apply And.intro) <;> first | assumption | rfl | omega | (unfold maxLen; omega)) [(20, .sl (.int .i64) v0_2)] [] (by (simp only [go_sem, hb2]) <;> (repeat' with_reducible apply And.intro) <;> first | assumption | rfl | omega | (unfold maxLen; omega)) ?_
    refine AO.allF tab_ok (by decide) [(4, .sl (.int .i64) v0_2), (5, .int .i64 0)] [] (by (simp only [go_sem, hb2]) <;> (repeat' with_reducible apply And.intro) <;> first | assumption | rfl | omega | (unfold maxLen; omega)) ?_
    refine athen_n ?_
    refine AW.ret ?_
    obtain rfl := Option.some.inj h
    exact ⟨rfl, [], [], [], rfl, (by (simp only [go_sem, hb2]) <;> (repeat' with_reducible apply And.intro) <;> first | assumption | rfl | omega | (unfold maxLen; omega))⟩

end Go.Proofs.Ytcijihofjcfpoab
