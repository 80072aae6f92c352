/-
  Made by wip/tool/dc.py out of the print of the program: contracts.
-/
import Derived.Test.YtcijihofjcfpoabWp
import Derived.Test.YtcijihofjcfpoabTb3
import Derived.Test.YtcijihofjcfpoabXgc1
import Derived.Test.YtcijihofjcfpoabXgc2
import Derived.Test.YtcijihofjcfpoabXgc3
namespace Go.Proofs.Ytcijihofjcfpoab
open Go.RowKit

set_option linter.unusedSimpArgs false
set_option linter.unusedVariables false
set_option linter.constructorNameAsVariable false

set_option maxRecDepth 100000 in
set_option maxHeartbeats 2000000 in
theorem hc_weave_ties_first (t : (El T59)) (w : List Int) {r : (List Int)} (h : weave_ties_first t w = some r) : HC Try.prog 70 [] [.agg (cellsX T59 t), .sl (.int .i64) w] [] (.sl (.int .i64) r) := by
  unfold weave_ties_first at h
  refine HC.of_body tab_ok (res := [.cell 4 25]) Try.func70 rfl (by kernel_rfl) rfl (nt := 11) rfl (by decide) (by simp) ?_
  refine AW.seq ?_
  refine AW.ops ?_
  refine AO.allF tab_ok (by decide) [(1, .sl (.int .i64) w), (2, .bp 2 0), (4, .bp 4 0)] [(2, .box 59 (cellsX T59 t)), (4, .box 25 [.cv (.slice none 0 0)])] (by (simp only [go_sem]) <;> (repeat' with_reducible apply And.intro) <;> first | assumption | rfl | omega | (unfold maxLen; omega)) ?_
  refine athen_n ?_
  refine AW.have1 (fun _ : Unit => weave_ties_first_k1 = some r) (fun _ => ⟨fr [(4, .bp 4 0)], hpGet [(4, .box 25 [.cv (.slice none 0 0)])], gt⟩) (fun _ h => ?_) (fun hk_weave_ties_first_k1 => ?_)
  · unfold weave_ties_first_k1 at h
    refine AW.seq ?_
    refine AW.ops ?_
    refine AO.allF tab_ok (by decide) [(4, .bp 4 0)] [(4, .box 25 [.cv (.slice none 0 0)])] (by (simp only [go_sem]) <;> (repeat' with_reducible apply And.intro) <;> first | assumption | rfl | omega | (unfold maxLen; omega)) ?_
    refine athen_n ?_
    refine AW.ret ?_
    obtain rfl := Option.some.inj h
    exact ⟨rfl, [], [], [], rfl, (by (simp only [go_sem]) <;> (repeat' with_reducible apply And.intro) <;> first | assumption | rfl | omega | (unfold maxLen; omega))⟩
  · refine AW.seq ?_
    refine AW.seq ?_
    refine AW.ops ?_
    refine AO.segF tab_ok 2 (by decide) [(4, .bp 4 0), (6, .agg (cellsX T59 t)), (7, .sl (.int .i64) w)] [(4, .box 25 [.cv (.slice none 0 0)])] (by (simp only [go_sem]) <;> (repeat' with_reducible apply And.intro) <;> first | assumption | rfl | omega | (unfold maxLen; omega)) ?_
    obtain ⟨v0, hv1, h⟩ := Option.bind_eq_some_iff.1 h
    refine AO.call tab_ok (by decide) rfl rfl rfl (fun _ h => h) [] [] (hc_weave_ties_class t w hv1) rfl (by (simp only [go_sem]) <;> (repeat' with_reducible apply And.intro) <;> first | assumption | rfl | omega | (unfold maxLen; omega)) (by (simp only [go_sem]) <;> (repeat' with_reducible apply And.intro) <;> first | assumption | rfl | omega | (unfold maxLen; omega)) [(4, .bp 4 0), (8, .fn (.func 97) [] [.bp 18000 0, .bp 18001 0])] [(4, .box 25 [.cv (.slice none 0 0)]), (18000, .box 25 [.sl (.int .i64) w]), (18001, .box 59 (cellsX T59 t))] (by (simp only [go_sem]) <;> (repeat' with_reducible apply And.intro) <;> first | assumption | rfl | omega | (unfold maxLen; omega)) ?_
    refine AO.allF tab_ok (by decide) [(4, .bp 4 0), (8, .fn (.func 97) [] [.bp 18000 0, .bp 18001 0])] [(4, .box 25 [.cv (.slice none 0 0)]), (18000, .box 25 [.sl (.int .i64) w]), (18001, .box 59 (cellsX T59 t))] (by (simp only [go_sem]) <;> (repeat' with_reducible apply And.intro) <;> first | assumption | rfl | omega | (unfold maxLen; omega)) ?_
    refine athen_n ?_
    refine AW.block ?_
    obtain ⟨x2, hx3, h⟩ := Option.bind_eq_some_iff.1 h
    refine AW.weaken (s' := ⟨fr [(4, .bp 4 0), (8, .fn (.func 97) [] [.bp 18000 0, .bp 18001 0])], hpGet ([(18000, .box 25 [.sl (.int .i64) w]), (18001, .box 59 (cellsX T59 t))] ++ [(4, .box 25 [.cv (.slice none 0 0)])]), gt⟩) (Wk.le [] [] [] rfl (by (simp only [go_sem]) <;> (repeat' with_reducible apply And.intro) <;> first | assumption | rfl | omega | (unfold maxLen; omega)) (by (simp only [go_sem]) <;> (repeat' with_reducible apply And.intro) <;> first | assumption | rfl | omega | (unfold maxLen; omega))) ?_
    refine AW.rangeF (R := (List Int)) (l0 := [(4, .bp 4 0)]) (hI := [(18000, .box 25 [.sl (.int .i64) w]), (18001, .box 59 (cellsX T59 t))]) (h0 := fun (st1 : Unit) => [(4, .box 25 [.cv (.slice none 0 0)])]) (gg := fun (st1 : Unit) => gt) (hx0 := (fun (r1 : (List Int)) => [(4, .box 25 [.sl (.int .i64) r1])])) (gx := (fun (r1 : (List Int)) => gt)) (ex := (fun (r1 : (List Int)) => Exit.ret)) () [(18000, 1000), (18001, 1001)] [(1000, 18000), (1001, 18001)] [(4, 1900)] [(1900, 4)] (by decide) rfl (by first | exact (ic_weave_ties_class_1 fuel w t (weave_ties_first_y1) () hx3) | simpa only [go_sem] using (ic_weave_ties_class_1 fuel w t (weave_ties_first_y1) () hx3)) (by (simp only [go_sem]) <;> (repeat' with_reducible apply And.intro) <;> first | assumption | rfl | omega | (unfold maxLen; omega)) rfl rfl rfl (fun _ => rfl) rfl (fun _ => rfl) rfl (fun _ => rfl) (fun _ => rfl) (fun _ => rfl) (fun _ => rfl) rfl (fun _ _ => by first | rfl | (exact (hΓ _).trans (hΓ _).symm) | (exact (hΓx _).trans (hΓ _).symm)) (fun _ _ => by first | rfl | (exact (hΓ _).trans (hΓ _).symm) | (exact (hΓx _).trans (hΓ _).symm)) ?_ ?_
    · intro lpy1 y1 st1 x4 h
      unfold weave_ties_first_y1 at h
      refine AW.weaken (s' := ⟨fr [(4, .bp 1900 0), (9, .sl (.int .i64) y1)], hpGet [(1900, .box 25 [.cv (.slice none 0 0)])], gt⟩) (Wk.to (by (simp only [go_sem]) <;> (repeat' with_reducible apply And.intro) <;> first | assumption | rfl | omega | (unfold maxLen; omega))) ?_
      refine AW.ops ?_
      refine AO.allF tab_ok (by decide) [(4, .bp 1900 0), (5, .sl (.int .i64) y1)] [(1900, .box 25 [.cv (.slice none 0 0)])] (by (simp only [go_sem]) <;> (repeat' with_reducible apply And.intro) <;> first | assumption | rfl | omega | (unfold maxLen; omega)) ?_
      refine And.intro rfl ?_
      refine AW.block ?_
      refine AW.seq ?_
      refine AW.ops ?_
      refine AO.allF tab_ok (by decide) [(4, .bp 1900 0)] [(1900, .box 25 [.sl (.int .i64) y1])] (by (simp only [go_sem]) <;> (repeat' with_reducible apply And.intro) <;> first | assumption | rfl | omega | (unfold maxLen; omega)) ?_
      refine athen_n ?_
      refine AW.ret ?_
      refine ablock_r ?_
      obtain rfl := Option.some.inj h
      exact rpost_ret rfl rfl [] [] [] rfl (by (simp only [go_sem]) <;> (repeat' with_reducible apply And.intro) <;> first | assumption | rfl | omega | (unfold maxLen; omega))
    · cases x2 with
      | inl st1_2 =>
        try simp only at h
        refine ablock_n ?_
        refine athen_n ?_
        exact AW.weaken (Wk.le [] [] [] rfl (by (simp only [go_sem]) <;> (repeat' with_reducible apply And.intro) <;> first | assumption | rfl | omega | (unfold maxLen; omega)) (by (simp only [go_sem]) <;> (repeat' with_reducible apply And.intro) <;> first | assumption | rfl | omega | (unfold maxLen; omega))) (hk_weave_ties_first_k1 () h)
      | inr r1 =>
        try simp only at h
        refine ablock_r ?_
        refine athen_r ?_
        obtain rfl := Option.some.inj h
        exact ⟨rfl, [], [], [], rfl, (by (simp only [go_sem]) <;> (repeat' with_reducible apply And.intro) <;> first | assumption | rfl | omega | (unfold maxLen; omega))⟩

set_option maxRecDepth 100000 in
set_option maxHeartbeats 2000000 in
theorem hc_weave_ties_rest (t : (El T59)) (begin : List Int) (w : List Int) {r : (List Int) × Bool} (h : weave_ties_rest t begin w = some r) : HC Try.prog 85 [] [.agg (cellsX T59 t), .sl (.int .i64) begin, .sl (.int .i64) w] [] (.tup [.sl (.int .i64) r.1, .bool r.2]) := by
  unfold weave_ties_rest at h
  refine HC.of_body tab_ok (res := [.tmp 6, .tmp 7]) Try.func85 rfl (by kernel_rfl) rfl (nt := 30) rfl (by decide) (by simp) ?_
  refine AW.seq ?_
  refine AW.ops ?_
  refine AO.allF tab_ok (by decide) [(1, .sl (.int .i64) begin), (2, .sl (.int .i64) w), (3, .bp 3 0)] [(3, .box 59 (cellsX T59 t))] (by (simp only [go_sem]) <;> (repeat' with_reducible apply And.intro) <;> first | assumption | rfl | omega | (unfold maxLen; omega)) ?_
  refine athen_n ?_
  refine AW.have1 (fun b1 : (List Int) => weave_ties_rest_k1 b1 = some r) (fun b1 => ⟨fr [(2, .sl (.int .i64) b1)], hpGet [], gt⟩) (fun b1 h => ?_) (fun hk_weave_ties_rest_k1 => ?_)
  · unfold weave_ties_rest_k1 at h
    refine AW.seq ?_
    refine AW.ops ?_
    refine AO.allF tab_ok (by decide) [(6, .sl (.int .i64) b1), (7, .bool true)] [] (by (simp only [go_sem]) <;> (repeat' with_reducible apply And.intro) <;> first | assumption | rfl | omega | (unfold maxLen; omega)) ?_
    refine athen_n ?_
    refine AW.ret ?_
    obtain rfl := Option.some.inj h
    exact ⟨rfl, [], [], [], rfl, (by (simp only [go_sem]) <;> (repeat' with_reducible apply And.intro) <;> first | assumption | rfl | omega | (unfold maxLen; omega))⟩
  · refine AW.seq ?_
    refine AW.seq ?_
    refine AW.ops ?_
    refine AO.allF tab_ok (by decide) [(2, .sl (.int .i64) w), (3, .bp 3 0), (12, .sl (.int .i64) begin), (13, .int .i64 (begin.length : Int)), (14, .int .i64 0)] [(3, .box 59 (cellsX T59 t))] (by (simp only [go_sem]) <;> (repeat' with_reducible apply And.intro) <;> first | assumption | rfl | omega | (unfold maxLen; omega)) ?_
    refine athen_n ?_
    refine AW.block ?_
    obtain ⟨rv5, hw1, ho2⟩ := Option.bind_eq_some_iff.1 h
    refine AW.loopO (weave_ties_rest_b1 t begin) (fun st1 => ⟨fr [(2, .sl (.int .i64) st1.1), (3, .bp 3 0), (12, .sl (.int .i64) begin), (13, .int .i64 (begin.length : Int)), (14, .int .i64 st1.2)], hpGet [(3, .box 59 (cellsX T59 t))], gt⟩) (w, 0) hw1 (Wk.le [] [] [] rfl (by (simp only [go_sem]) <;> (repeat' with_reducible apply And.intro) <;> first | assumption | rfl | omega | (unfold maxLen; omega)) (by (simp only [go_sem]) <;> (repeat' with_reducible apply And.intro) <;> first | assumption | rfl | omega | (unfold maxLen; omega))) ?_
    intro st1 x4 h hd3
    unfold weave_ties_rest_b1 at h
    refine AW.seq ?_
    refine AW.ops ?_
    refine AO.allF tab_ok (by decide) [(2, .sl (.int .i64) st1.1), (3, .bp 3 0), (12, .sl (.int .i64) begin), (13, .int .i64 (begin.length : Int)), (14, .int .i64 st1.2), (15, .bool (decide (st1.2 < (begin.length : Int))))] [(3, .box 59 (cellsX T59 t))] (by (simp only [go_sem]) <;> (repeat' with_reducible apply And.intro) <;> first | assumption | rfl | omega | (unfold maxLen; omega)) ?_
    refine athen_n ?_
    refine AW.seq ?_
    refine AW.cond (b := (decide (st1.2 < (begin.length : Int)))) rfl (fun hb6 => ?_) (fun hb6 => ?_)
    · rw [if_pos hb6] at h
      refine AW.skip ?_
      refine athen_n ?_
      refine AW.seq ?_
      refine AW.block ?_
      refine AW.seq ?_
      refine AW.ops ?_
      obtain ⟨c7, h⟩ := ck_some.1 h
      obtain ⟨c8, h⟩ := ck_some.1 h
      refine AO.allF tab_ok (by decide) [(2, .sl (.int .i64) st1.1), (3, .bp 3 0), (9, .int .i64 (begin.getD st1.2.toNat 0)), (12, .sl (.int .i64) begin), (13, .int .i64 (begin.length : Int)), (14, .int .i64 st1.2)] [(3, .box 59 (cellsX T59 t))] (by (simp only [go_sem, hb6]) <;> (repeat' with_reducible apply And.intro) <;> first | assumption | rfl | omega | (unfold maxLen; omega)) ?_
      refine athen_n ?_
      refine AW.seq ?_
      refine AW.ops ?_
      refine AO.segF tab_ok 3 (by decide) [(3, .bp 3 0), (12, .sl (.int .i64) begin), (13, .int .i64 (begin.length : Int)), (14, .int .i64 st1.2), (19, .agg (cellsX T59 t)), (20, .sl (.int .i64) st1.1), (21, .int .i64 (begin.getD st1.2.toNat 0))] [(3, .box 59 (cellsX T59 t))] (by (simp only [go_sem, hb6]) <;> (repeat' with_reducible apply And.intro) <;> first | assumption | rfl | omega | (unfold maxLen; omega)) ?_
      obtain ⟨v0, hv9, h⟩ := Option.bind_eq_some_iff.1 h
      refine AO.call tab_ok (by decide) rfl rfl rfl (fun _ h => h) [] [] (hc_weave_ties_without t st1.1 (begin.getD st1.2.toNat 0) hv9) rfl (by (simp only [go_sem, hb6]) <;> (repeat' with_reducible apply And.intro) <;> first | assumption | rfl | omega | (unfold maxLen; omega)) (by (simp only [go_sem, hb6]) <;> (repeat' with_reducible apply And.intro) <;> first | assumption | rfl | omega | (unfold maxLen; omega)) [(3, .bp 3 0), (12, .sl (.int .i64) begin), (13, .int .i64 (begin.length : Int)), (14, .int .i64 st1.2), (22, .tup [.own 32000, .bool v0.2])] [(3, .box 59 (cellsX T59 t)), (32000, .arr 3 (.int .i64) v0.1)] (by (simp only [go_sem, hb6]) <;> (repeat' with_reducible apply And.intro) <;> first | assumption | rfl | omega | (unfold maxLen; omega)) ?_
      refine AO.allF tab_ok (by decide) [(3, .bp 3 0), (10, .own 32000), (11, .bool v0.2), (12, .sl (.int .i64) begin), (13, .int .i64 (begin.length : Int)), (14, .int .i64 st1.2)] [(3, .box 59 (cellsX T59 t)), (32000, .arr 3 (.int .i64) v0.1)] (by (simp only [go_sem, hb6]) <;> (repeat' with_reducible apply And.intro) <;> first | assumption | rfl | omega | (unfold maxLen; omega)) ?_
      refine athen_n ?_
      refine AW.seq ?_
      refine AW.seq ?_
      refine AW.ops ?_
      refine AO.allF tab_ok (by decide) [(3, .bp 3 0), (10, .own 32000), (12, .sl (.int .i64) begin), (13, .int .i64 (begin.length : Int)), (14, .int .i64 st1.2), (26, .bool (!v0.2))] [(3, .box 59 (cellsX T59 t)), (32000, .arr 3 (.int .i64) v0.1)] (by (simp only [go_sem, hb6]) <;> (repeat' with_reducible apply And.intro) <;> first | assumption | rfl | omega | (unfold maxLen; omega)) ?_
      refine athen_n ?_
      refine AW.cond (b := (!v0.2)) rfl (fun hb10 => ?_) (fun hb10 => ?_)
      · rw [if_pos hb10] at h
        refine AW.seq ?_
        refine AW.ops ?_
        refine AO.allF tab_ok (by decide) [(6, .cv (.slice none 0 0)), (7, .bool false)] [] (by (simp only [go_sem, hb6, hb10]) <;> (repeat' with_reducible apply And.intro) <;> first | assumption | rfl | omega | (unfold maxLen; omega)) ?_
        refine athen_n ?_
        refine AW.ret ?_
        refine athen_r ?_
        refine ablock_r ?_
        refine athen_r ?_
        obtain rfl := Option.some.inj h
        rw [← hd3 _ rfl] at ho2
        have h := ho2
        try simp only at h
        refine athen_r ?_
        refine ablock_r ?_
        refine athen_r ?_
        obtain rfl := Option.some.inj h
        exact ⟨rfl, [], [], [], rfl, (by (simp only [go_sem, hb6, hb10]) <;> (repeat' with_reducible apply And.intro) <;> first | assumption | rfl | omega | (unfold maxLen; omega))⟩
      · rw [if_neg (Bool.eq_false_iff.1 hb10)] at h
        refine AW.skip ?_
        refine athen_n ?_
        refine AW.ops ?_
        refine AO.allF tab_ok (by decide) [(2, .own 32000), (3, .bp 3 0), (12, .sl (.int .i64) begin), (13, .int .i64 (begin.length : Int)), (14, .int .i64 st1.2)] [(3, .box 59 (cellsX T59 t)), (32000, .arr 3 (.int .i64) v0.1)] (by (simp only [go_sem, hb6, hb10]) <;> (repeat' with_reducible apply And.intro) <;> first | assumption | rfl | omega | (unfold maxLen; omega)) ?_
        refine ablock_n ?_
        refine athen_n ?_
        refine AW.ops ?_
        obtain ⟨c11, h⟩ := ck_some.1 h
        refine AO.allF tab_ok (by decide) [(2, .own 32000), (3, .bp 3 0), (12, .sl (.int .i64) begin), (13, .int .i64 (begin.length : Int)), (14, .int .i64 (st1.2 + 1))] [(3, .box 59 (cellsX T59 t)), (32000, .arr 3 (.int .i64) v0.1)] (by (simp only [go_sem, hb6, hb10]) <;> (repeat' with_reducible apply And.intro) <;> first | assumption | rfl | omega | (unfold maxLen; omega)) ?_
        obtain rfl := Option.some.inj h
        exact ⟨_, rfl, Wk.le [32000] [] [] rfl (by (simp only [go_sem, hb6, hb10]) <;> (repeat' with_reducible apply And.intro) <;> first | assumption | rfl | omega | (unfold maxLen; omega)) (by (simp only [go_sem, hb6, hb10]) <;> (repeat' with_reducible apply And.intro) <;> first | assumption | rfl | omega | (unfold maxLen; omega))⟩
    · rw [if_neg (Bool.eq_false_iff.1 hb6)] at h
      refine AW.exit ?_
      refine athen_e ?_
      obtain rfl := Option.some.inj h
      rw [← hd3 _ rfl] at ho2
      have h := ho2
      try simp only at h
      refine athen_e ?_
      refine ablock_s ?_
      refine athen_n ?_
      exact AW.weaken (Wk.le [] [] [] rfl (by (simp only [go_sem, hb6]) <;> (repeat' with_reducible apply And.intro) <;> first | assumption | rfl | omega | (unfold maxLen; omega)) (by (simp only [go_sem, hb6]) <;> (repeat' with_reducible apply And.intro) <;> first | assumption | rfl | omega | (unfold maxLen; omega))) (hk_weave_ties_rest_k1 _ h)

set_option maxRecDepth 100000 in
set_option maxHeartbeats 2000000 in
theorem hc_weave_Begins (l : Int × (List (Int × Int))) (u : List Int) (w : List Int) {r : Bool × Int} (h : weave_Begins l u w = some r) : HC Try.prog 46 [] [.agg [.int .i64 l.1, .sl (.pair (.int .i64) (.int .i64)) l.2], .sl (.int .i64) u, .sl (.int .i64) w] [] (.tup [.bool r.1, .int .i64 r.2]) := by
  unfold weave_Begins at h
  refine HC.of_body tab_ok (res := [.tmp 6, .tmp 7]) Try.func46 rfl (by kernel_rfl) rfl (nt := 31) rfl (by decide) (by simp) ?_
  refine AW.seq ?_
  refine AW.ops ?_
  refine AO.allF tab_ok (by decide) [(1, .sl (.int .i64) u), (2, .sl (.int .i64) w), (3, .bp 3 0)] [(3, .box 24 [.int .i64 l.1, .sl (.pair (.int .i64) (.int .i64)) l.2])] (by (simp only [go_sem]) <;> (repeat' with_reducible apply And.intro) <;> first | assumption | rfl | omega | (unfold maxLen; omega)) ?_
  refine athen_n ?_
  refine AW.seq ?_
  refine AW.ops ?_
  refine AO.segF tab_ok 4 (by decide) [(1, .sl (.int .i64) u), (2, .sl (.int .i64) w), (13, .agg [.int .i64 l.1, .sl (.pair (.int .i64) (.int .i64)) l.2]), (16, .own 16)] [(16, .arr 25 (.sl (.int .i64)) [u, w])] (by (simp only [go_sem]) <;> (repeat' with_reducible apply And.intro) <;> first | assumption | rfl | omega | (unfold maxLen; omega)) ?_
  obtain ⟨v0, hv1, h⟩ := Option.bind_eq_some_iff.1 h
  refine AO.call tab_ok (by decide) rfl rfl rfl (fun _ h => h) [16] [] (hc_weave_checked l [u, w] hv1) rfl (by (simp only [go_sem]) <;> (repeat' with_reducible apply And.intro) <;> first | assumption | rfl | omega | (unfold maxLen; omega)) (by (simp only [go_sem]) <;> (repeat' with_reducible apply And.intro) <;> first | assumption | rfl | omega | (unfold maxLen; omega)) [(1, .sl (.int .i64) u), (2, .sl (.int .i64) w), (17, .tup [.agg (cellsX T59 v0.1), .int .i64 v0.2])] [] (by (simp only [go_sem]) <;> (repeat' with_reducible apply And.intro) <;> first | assumption | rfl | omega | (unfold maxLen; omega)) ?_
  refine AO.allF tab_ok (by decide) [(1, .sl (.int .i64) u), (2, .sl (.int .i64) w), (8, .bp 8 0), (9, .int .i64 v0.2)] [(8, .box 59 (cellsX T59 v0.1))] (by (simp only [go_sem]) <;> (repeat' with_reducible apply And.intro) <;> first | assumption | rfl | omega | (unfold maxLen; omega)) ?_
  refine athen_n ?_
  refine AW.seq ?_
  refine AW.seq ?_
  refine AW.ops ?_
  refine AO.allF tab_ok (by decide) [(1, .sl (.int .i64) u), (2, .sl (.int .i64) w), (8, .bp 8 0), (9, .int .i64 v0.2), (21, .bool (!(decide (v0.2 = 0))))] [(8, .box 59 (cellsX T59 v0.1))] (by (simp only [go_sem]) <;> (repeat' with_reducible apply And.intro) <;> first | assumption | rfl | omega | (unfold maxLen; omega)) ?_
  refine athen_n ?_
  refine AW.cond (b := (!(decide (v0.2 = 0)))) rfl (fun hb2 => ?_) (fun hb2 => ?_)
  · rw [if_pos hb2] at h
    refine AW.seq ?_
    refine AW.ops ?_
    refine AO.allF tab_ok (by decide) [(6, .bool false), (7, .int .i64 v0.2)] [] (by (simp only [go_sem, hb2]) <;> (repeat' with_reducible apply And.intro) <;> first | assumption | rfl | omega | (unfold maxLen; omega)) ?_
    refine athen_n ?_
    refine AW.ret ?_
    refine athen_r ?_
    obtain rfl := Option.some.inj h
    exact ⟨rfl, [], [], [], rfl, (by (simp only [go_sem, hb2]) <;> (repeat' with_reducible apply And.intro) <;> first | assumption | rfl | omega | (unfold maxLen; omega))⟩
  · rw [if_neg (Bool.eq_false_iff.1 hb2)] at h
    refine AW.skip ?_
    refine athen_n ?_
    refine AW.seq ?_
    refine AW.ops ?_
    refine AO.segF tab_ok 3 (by decide) [(24, .agg (cellsX T59 v0.1)), (25, .sl (.int .i64) u), (26, .sl (.int .i64) w)] [] (by (simp only [go_sem, hb2]) <;> (repeat' with_reducible apply And.intro) <;> first | assumption | rfl | omega | (unfold maxLen; omega)) ?_
    obtain ⟨v0_2, hv3, h⟩ := Option.bind_eq_some_iff.1 h
    refine AO.call tab_ok (by decide) rfl rfl rfl (fun _ h => h) [] [] (hc_weave_ties_rest v0.1 u w hv3) rfl (by (simp only [go_sem, hb2]) <;> (repeat' with_reducible apply And.intro) <;> first | assumption | rfl | omega | (unfold maxLen; omega)) (by (simp only [go_sem, hb2]) <;> (repeat' with_reducible apply And.intro) <;> first | assumption | rfl | omega | (unfold maxLen; omega)) [(27, .tup [.sl (.int .i64) v0_2.1, .bool v0_2.2])] [] (by (simp only [go_sem, hb2]) <;> (repeat' with_reducible apply And.intro) <;> first | assumption | rfl | omega | (unfold maxLen; omega)) ?_
    refine AO.allF tab_ok (by decide) [(11, .bool v0_2.2)] [] (by (simp only [go_sem, hb2]) <;> (repeat' with_reducible apply And.intro) <;> first | assumption | rfl | omega | (unfold maxLen; omega)) ?_
    refine athen_n ?_
    refine AW.seq ?_
    refine AW.ops ?_
    refine AO.allF tab_ok (by decide) [(6, .bool v0_2.2), (7, .int .i64 0)] [] (by (simp only [go_sem, hb2]) <;> (repeat' with_reducible apply And.intro) <;> first | assumption | rfl | omega | (unfold maxLen; omega)) ?_
    refine athen_n ?_
    refine AW.ret ?_
    obtain rfl := Option.some.inj h
    exact ⟨rfl, [], [], [], rfl, (by (simp only [go_sem, hb2]) <;> (repeat' with_reducible apply And.intro) <;> first | assumption | rfl | omega | (unfold maxLen; omega))⟩

set_option maxRecDepth 100000 in
set_option maxHeartbeats 2000000 in
theorem hc_weave_ties_splitF (slf : ((El T59)) → (List Int) → (List Int) → Option ((List Int) × (List Int) × (List Int))) (hc_slf : ∀ (t : (El T59)) (w : List Int) (v0 : List Int) {r : (List Int) × (List Int) × (List Int)}, slf t w v0 = some r → HC Try.prog 86 [] [.agg (cellsX T59 t), .sl (.int .i64) w, .sl (.int .i64) v0] [(2000, .arr 3 (.int .i64) r.1)] (.tup [.own 2000, .sl (.int .i64) r.2.1, .sl (.int .i64) r.2.2])) (t : (El T59)) (w : List Int) (v0 : List Int) {r : (List Int) × (List Int) × (List Int)} (h : weave_ties_splitF slf t w v0 = some r) : HC Try.prog 86 [] [.agg (cellsX T59 t), .sl (.int .i64) w, .sl (.int .i64) v0] [(2000, .arr 3 (.int .i64) r.1)] (.tup [.own 2000, .sl (.int .i64) r.2.1, .sl (.int .i64) r.2.2]) := by
  unfold weave_ties_splitF at h
  refine HC.of_body tab_ok (res := [.cell 6 25, .cell 7 25, .cell 8 25]) Try.func86 rfl (by kernel_rfl) rfl (nt := 42) rfl (by decide) (by simp) ?_
  refine AW.seq ?_
  refine AW.ops ?_
  refine AO.allF tab_ok (by decide) [(1, .sl (.int .i64) w), (3, .bp 3 0), (5, .bp 5 0), (6, .bp 6 0), (7, .bp 7 0), (8, .bp 8 0)] [(3, .box 59 (cellsX T59 t)), (5, .box 25 [.sl (.int .i64) v0]), (6, .box 25 [.cv (.slice none 0 0)]), (7, .box 25 [.cv (.slice none 0 0)]), (8, .box 25 [.cv (.slice none 0 0)])] (by (simp only [go_sem]) <;> (repeat' with_reducible apply And.intro) <;> first | assumption | rfl | omega | (unfold maxLen; omega)) ?_
  refine athen_n ?_
  refine AW.have1 (fun _ : Unit => weave_ties_split_k1 w v0 = some r) (fun _ => ⟨fr [(1, .sl (.int .i64) w), (5, .bp 5 0), (6, .bp 6 0), (7, .bp 7 0), (8, .bp 8 0)], hpGet [(5, .box 25 [.sl (.int .i64) v0]), (6, .box 25 [.cv (.slice none 0 0)]), (7, .box 25 [.cv (.slice none 0 0)]), (8, .box 25 [.cv (.slice none 0 0)])], gt⟩) (fun _ h => ?_) (fun hk_weave_ties_split_k1 => ?_)
  · unfold weave_ties_split_k1 at h
    refine AW.seq ?_
    refine AW.draw tab_ok mixed_ok [(2, [6]), (3, [7]), (4, [8])] [(0, []), (1, [5]), (100002, []), (100003, []), (100004, [])] (by decide) (by kernel_rfl) ?_
    refine adops_cut 5 (fun K' hK1 => ?_)
    try dsimp only [List.drop_succ_cons, List.drop_zero, List.take_succ_cons, List.take_zero]
    simp only [go_sem]
    repeat (with_reducible refine And.intro (by first | assumption | rfl | omega | trivial | (unfold maxLen; omega)) ?_)
    refine hK1 _ ?_
    refine adops_nil ?_
    refine athen_n ?_
    refine AW.weaken (s' := ⟨fr [(6, .bp 6 0), (7, .bp 7 0), (8, .bp 8 0)], hpGet [(6, .box 25 [.cv (.slice none 0 0)]), (7, .box 25 [.sl (.int .i64) w]), (8, .box 25 [.sl (.int .i64) v0])], gt⟩) (Wk.to (by (simp only [go_sem]) <;> (repeat' with_reducible apply And.intro) <;> first | assumption | rfl | omega | (unfold maxLen; omega))) ?_
    refine AW.ret ?_
    obtain rfl := Option.some.inj h
    exact ⟨rfl, [], [2000], [], rfl, (by (simp only [go_sem]) <;> (repeat' with_reducible apply And.intro) <;> first | assumption | rfl | omega | (unfold maxLen; omega))⟩
  · refine AW.seq ?_
    refine AW.seq ?_
    refine AW.ops ?_
    refine AO.segF tab_ok 2 (by decide) [(1, .sl (.int .i64) w), (3, .bp 3 0), (5, .bp 5 0), (6, .bp 6 0), (7, .bp 7 0), (8, .bp 8 0), (13, .agg (cellsX T59 t)), (14, .sl (.int .i64) w)] [(3, .box 59 (cellsX T59 t)), (5, .box 25 [.sl (.int .i64) v0]), (6, .box 25 [.cv (.slice none 0 0)]), (7, .box 25 [.cv (.slice none 0 0)]), (8, .box 25 [.cv (.slice none 0 0)])] (by (simp only [go_sem]) <;> (repeat' with_reducible apply And.intro) <;> first | assumption | rfl | omega | (unfold maxLen; omega)) ?_
    obtain ⟨v0_2, hv2, h⟩ := Option.bind_eq_some_iff.1 h
    refine AO.call tab_ok (by decide) rfl rfl rfl (fun _ h => h) [] [] (hc_weave_ties_starts t w hv2) rfl (by (simp only [go_sem]) <;> (repeat' with_reducible apply And.intro) <;> first | assumption | rfl | omega | (unfold maxLen; omega)) (by (simp only [go_sem]) <;> (repeat' with_reducible apply And.intro) <;> first | assumption | rfl | omega | (unfold maxLen; omega)) [(1, .sl (.int .i64) w), (3, .bp 3 0), (5, .bp 5 0), (6, .bp 6 0), (7, .bp 7 0), (8, .bp 8 0), (15, .fn (.func 94) [] [.bp 25000 0, .bp 25001 0])] [(3, .box 59 (cellsX T59 t)), (5, .box 25 [.sl (.int .i64) v0]), (6, .box 25 [.cv (.slice none 0 0)]), (7, .box 25 [.cv (.slice none 0 0)]), (8, .box 25 [.cv (.slice none 0 0)]), (25000, .box 59 (cellsX T59 t)), (25001, .box 25 [.sl (.int .i64) w])] (by (simp only [go_sem]) <;> (repeat' with_reducible apply And.intro) <;> first | assumption | rfl | omega | (unfold maxLen; omega)) ?_
    refine AO.allF tab_ok (by decide) [(1, .sl (.int .i64) w), (3, .bp 3 0), (5, .bp 5 0), (6, .bp 6 0), (7, .bp 7 0), (8, .bp 8 0), (15, .fn (.func 94) [] [.bp 25000 0, .bp 25001 0])] [(3, .box 59 (cellsX T59 t)), (5, .box 25 [.sl (.int .i64) v0]), (6, .box 25 [.cv (.slice none 0 0)]), (7, .box 25 [.cv (.slice none 0 0)]), (8, .box 25 [.cv (.slice none 0 0)]), (25000, .box 59 (cellsX T59 t)), (25001, .box 25 [.sl (.int .i64) w])] (by (simp only [go_sem]) <;> (repeat' with_reducible apply And.intro) <;> first | assumption | rfl | omega | (unfold maxLen; omega)) ?_
    refine athen_n ?_
    refine AW.block ?_
    obtain ⟨x3, hx4, h⟩ := Option.bind_eq_some_iff.1 h
    refine AW.weaken (s' := ⟨fr [(1, .sl (.int .i64) w), (3, .bp 3 0), (5, .bp 5 0), (6, .bp 6 0), (7, .bp 7 0), (8, .bp 8 0), (15, .fn (.func 94) [] [.bp 25000 0, .bp 25001 0])], hpGet ([(25000, .box 59 (cellsX T59 t)), (25001, .box 25 [.sl (.int .i64) w])] ++ [(3, .box 59 (cellsX T59 t)), (5, .box 25 [.sl (.int .i64) v0]), (6, .box 25 [.cv (.slice none 0 0)]), (7, .box 25 [.cv (.slice none 0 0)]), (8, .box 25 [.cv (.slice none 0 0)])]), gt⟩) (Wk.le [] [] [] rfl (by (simp only [go_sem]) <;> (repeat' with_reducible apply And.intro) <;> first | assumption | rfl | omega | (unfold maxLen; omega)) (by (simp only [go_sem]) <;> (repeat' with_reducible apply And.intro) <;> first | assumption | rfl | omega | (unfold maxLen; omega))) ?_
    refine AW.rangeF (R := (List Int) × (List Int) × (List Int)) (l0 := [(1, .sl (.int .i64) w), (3, .bp 3 0), (5, .bp 5 0), (6, .bp 6 0), (7, .bp 7 0), (8, .bp 8 0)]) (hI := [(25000, .box 59 (cellsX T59 t)), (25001, .box 25 [.sl (.int .i64) w])]) (h0 := fun (st1 : Unit) => [(3, .box 59 (cellsX T59 t)), (5, .box 25 [.sl (.int .i64) v0]), (6, .box 25 [.cv (.slice none 0 0)]), (7, .box 25 [.cv (.slice none 0 0)]), (8, .box 25 [.cv (.slice none 0 0)])]) (gg := fun (st1 : Unit) => gt) (hx0 := (fun (r1 : (List Int) × (List Int) × (List Int)) => [(3, .box 59 (cellsX T59 t)), (5, .box 25 [.sl (.int .i64) v0]), (6, .box 25 [.own 37]), (7, .box 25 [.sl (.int .i64) r1.2.1]), (8, .box 25 [.sl (.int .i64) r1.2.2]), (37, .arr 3 (.int .i64) r1.1)])) (gx := (fun (r1 : (List Int) × (List Int) × (List Int)) => gt)) (ex := (fun (r1 : (List Int) × (List Int) × (List Int)) => Exit.ret)) () [(25000, 1000), (25001, 1001)] [(1000, 25000), (1001, 25001)] [(3, 1900), (5, 1901), (6, 1902), (7, 1903), (8, 1904)] [(1900, 3), (1901, 5), (1902, 6), (1903, 7), (1904, 8)] (by decide) rfl (by first | exact (ic_weave_ties_starts_1 t w (weave_ties_split_y1 slf t v0) () hx4) | simpa only [go_sem] using (ic_weave_ties_starts_1 t w (weave_ties_split_y1 slf t v0) () hx4)) (by (simp only [go_sem]) <;> (repeat' with_reducible apply And.intro) <;> first | assumption | rfl | omega | (unfold maxLen; omega)) rfl rfl rfl (fun _ => rfl) rfl (fun _ => rfl) rfl (fun _ => rfl) (fun _ => rfl) (fun _ => rfl) (fun _ => rfl) rfl (fun _ _ => by first | rfl | (exact (hΓ _).trans (hΓ _).symm) | (exact (hΓx _).trans (hΓ _).symm)) (fun _ _ => by first | rfl | (exact (hΓ _).trans (hΓ _).symm) | (exact (hΓx _).trans (hΓ _).symm)) ?_ ?_
    · intro lpy1 y1 st1 x5 h
      unfold weave_ties_split_y1 at h
      refine AW.weaken (s' := ⟨fr [(1, .sl (.int .i64) w), (3, .bp 1900 0), (5, .bp 1901 0), (6, .bp 1902 0), (7, .bp 1903 0), (8, .bp 1904 0), (16, .int .i64 y1.1), (17, .sl (.int .i64) y1.2)], hpGet [(1900, .box 59 (cellsX T59 t)), (1901, .box 25 [.sl (.int .i64) v0]), (1902, .box 25 [.cv (.slice none 0 0)]), (1903, .box 25 [.cv (.slice none 0 0)]), (1904, .box 25 [.cv (.slice none 0 0)])], gt⟩) (Wk.to (by (simp only [go_sem]) <;> (repeat' with_reducible apply And.intro) <;> first | assumption | rfl | omega | (unfold maxLen; omega))) ?_
      refine AW.seq ?_
      refine AW.ops ?_
      refine AO.allF tab_ok (by decide) [(1, .sl (.int .i64) w), (3, .bp 1900 0), (5, .bp 1901 0), (6, .bp 1902 0), (7, .bp 1903 0), (8, .bp 1904 0), (9, .int .i64 y1.1), (17, .sl (.int .i64) y1.2)] [(1900, .box 59 (cellsX T59 t)), (1901, .box 25 [.sl (.int .i64) v0]), (1902, .box 25 [.cv (.slice none 0 0)]), (1903, .box 25 [.cv (.slice none 0 0)]), (1904, .box 25 [.cv (.slice none 0 0)])] (by (simp only [go_sem]) <;> (repeat' with_reducible apply And.intro) <;> first | assumption | rfl | omega | (unfold maxLen; omega)) ?_
      refine athen_n ?_
      refine AW.ops ?_
      refine AO.allF tab_ok (by decide) [(1, .sl (.int .i64) w), (3, .bp 1900 0), (5, .bp 1901 0), (6, .bp 1902 0), (7, .bp 1903 0), (8, .bp 1904 0), (9, .int .i64 y1.1), (10, .sl (.int .i64) y1.2)] [(1900, .box 59 (cellsX T59 t)), (1901, .box 25 [.sl (.int .i64) v0]), (1902, .box 25 [.cv (.slice none 0 0)]), (1903, .box 25 [.cv (.slice none 0 0)]), (1904, .box 25 [.cv (.slice none 0 0)])] (by (simp only [go_sem]) <;> (repeat' with_reducible apply And.intro) <;> first | assumption | rfl | omega | (unfold maxLen; omega)) ?_
      refine And.intro rfl ?_
      refine AW.block ?_
      refine AW.seq ?_
      refine AW.ops ?_
      refine AO.segF tab_ok 3 (by decide) [(1, .sl (.int .i64) w), (3, .bp 1900 0), (5, .bp 1901 0), (6, .bp 1902 0), (7, .bp 1903 0), (8, .bp 1904 0), (9, .int .i64 y1.1), (10, .sl (.int .i64) y1.2), (19, .agg (cellsX T59 t)), (20, .sl (.int .i64) v0), (21, .int .i64 y1.1)] [(1900, .box 59 (cellsX T59 t)), (1901, .box 25 [.sl (.int .i64) v0]), (1902, .box 25 [.cv (.slice none 0 0)]), (1903, .box 25 [.cv (.slice none 0 0)]), (1904, .box 25 [.cv (.slice none 0 0)])] (by (simp only [go_sem]) <;> (repeat' with_reducible apply And.intro) <;> first | assumption | rfl | omega | (unfold maxLen; omega)) ?_
      obtain ⟨v0_3, hv6, h⟩ := Option.bind_eq_some_iff.1 h
      refine AO.call tab_ok (by decide) rfl rfl rfl (fun _ h => h) [] [] (hc_weave_ties_without t v0 y1.1 hv6) rfl (by (simp only [go_sem]) <;> (repeat' with_reducible apply And.intro) <;> first | assumption | rfl | omega | (unfold maxLen; omega)) (by (simp only [go_sem]) <;> (repeat' with_reducible apply And.intro) <;> first | assumption | rfl | omega | (unfold maxLen; omega)) [(1, .sl (.int .i64) w), (3, .bp 1900 0), (5, .bp 1901 0), (6, .bp 1902 0), (7, .bp 1903 0), (8, .bp 1904 0), (9, .int .i64 y1.1), (10, .sl (.int .i64) y1.2), (22, .tup [.own 32000, .bool v0_3.2])] [(1900, .box 59 (cellsX T59 t)), (1901, .box 25 [.sl (.int .i64) v0]), (1902, .box 25 [.cv (.slice none 0 0)]), (1903, .box 25 [.cv (.slice none 0 0)]), (1904, .box 25 [.cv (.slice none 0 0)]), (32000, .arr 3 (.int .i64) v0_3.1)] (by (simp only [go_sem]) <;> (repeat' with_reducible apply And.intro) <;> first | assumption | rfl | omega | (unfold maxLen; omega)) ?_
      refine AO.allF tab_ok (by decide) [(1, .sl (.int .i64) w), (3, .bp 1900 0), (5, .bp 1901 0), (6, .bp 1902 0), (7, .bp 1903 0), (8, .bp 1904 0), (9, .int .i64 y1.1), (10, .sl (.int .i64) y1.2), (11, .own 32000), (12, .bool v0_3.2)] [(1900, .box 59 (cellsX T59 t)), (1901, .box 25 [.sl (.int .i64) v0]), (1902, .box 25 [.cv (.slice none 0 0)]), (1903, .box 25 [.cv (.slice none 0 0)]), (1904, .box 25 [.cv (.slice none 0 0)]), (32000, .arr 3 (.int .i64) v0_3.1)] (by (simp only [go_sem]) <;> (repeat' with_reducible apply And.intro) <;> first | assumption | rfl | omega | (unfold maxLen; omega)) ?_
      refine athen_n ?_
      refine AW.seq ?_
      refine AW.ops ?_
      refine AO.allF tab_ok (by decide) [(1, .sl (.int .i64) w), (3, .bp 1900 0), (5, .bp 1901 0), (6, .bp 1902 0), (7, .bp 1903 0), (8, .bp 1904 0), (9, .int .i64 y1.1), (10, .sl (.int .i64) y1.2), (11, .own 32000), (25, .bool v0_3.2)] [(1900, .box 59 (cellsX T59 t)), (1901, .box 25 [.sl (.int .i64) v0]), (1902, .box 25 [.cv (.slice none 0 0)]), (1903, .box 25 [.cv (.slice none 0 0)]), (1904, .box 25 [.cv (.slice none 0 0)]), (32000, .arr 3 (.int .i64) v0_3.1)] (by (simp only [go_sem]) <;> (repeat' with_reducible apply And.intro) <;> first | assumption | rfl | omega | (unfold maxLen; omega)) ?_
      refine athen_n ?_
      refine AW.cond (b := v0_3.2) rfl (fun hb7 => ?_) (fun hb7 => ?_)
      · rw [if_pos hb7] at h
        refine AW.seq ?_
        refine AW.ops ?_
        refine AO.segF tab_ok 3 (by decide) [(1, .sl (.int .i64) w), (3, .bp 1900 0), (5, .bp 1901 0), (6, .bp 1902 0), (7, .bp 1903 0), (8, .bp 1904 0), (9, .int .i64 y1.1), (27, .agg (cellsX T59 t)), (28, .sl (.int .i64) y1.2), (29, .own 32000)] [(1900, .box 59 (cellsX T59 t)), (1901, .box 25 [.sl (.int .i64) v0]), (1902, .box 25 [.cv (.slice none 0 0)]), (1903, .box 25 [.cv (.slice none 0 0)]), (1904, .box 25 [.cv (.slice none 0 0)]), (32000, .arr 3 (.int .i64) v0_3.1)] (by (simp only [go_sem, hb7]) <;> (repeat' with_reducible apply And.intro) <;> first | assumption | rfl | omega | (unfold maxLen; omega)) ?_
        obtain ⟨v0_4, hv8, h⟩ := Option.bind_eq_some_iff.1 h
        refine AO.call tab_ok (by decide) rfl rfl rfl (fun _ h => h) [32000] [] (hc_slf t y1.2 v0_3.1 hv8) rfl (by (simp only [go_sem, hb7]) <;> (repeat' with_reducible apply And.intro) <;> first | assumption | rfl | omega | (unfold maxLen; omega)) (by (simp only [go_sem, hb7]) <;> (repeat' with_reducible apply And.intro) <;> first | assumption | rfl | omega | (unfold maxLen; omega)) [(1, .sl (.int .i64) w), (3, .bp 1900 0), (5, .bp 1901 0), (6, .bp 1902 0), (7, .bp 1903 0), (8, .bp 1904 0), (9, .int .i64 y1.1), (30, .tup [.own 40000, .sl (.int .i64) v0_4.2.1, .sl (.int .i64) v0_4.2.2])] [(1900, .box 59 (cellsX T59 t)), (1901, .box 25 [.sl (.int .i64) v0]), (1902, .box 25 [.cv (.slice none 0 0)]), (1903, .box 25 [.cv (.slice none 0 0)]), (1904, .box 25 [.cv (.slice none 0 0)]), (40000, .arr 3 (.int .i64) v0_4.1)] (by (simp only [go_sem, hb7]) <;> (repeat' with_reducible apply And.intro) <;> first | assumption | rfl | omega | (unfold maxLen; omega)) ?_
        refine AO.allF tab_ok (by decide) [(1, .sl (.int .i64) w), (3, .bp 1900 0), (5, .bp 1901 0), (6, .bp 1902 0), (7, .bp 1903 0), (8, .bp 1904 0), (9, .int .i64 y1.1)] [(1900, .box 59 (cellsX T59 t)), (1901, .box 25 [.sl (.int .i64) v0]), (1902, .box 25 [.own 40000]), (1903, .box 25 [.sl (.int .i64) v0_4.2.1]), (1904, .box 25 [.sl (.int .i64) v0_4.2.2]), (40000, .arr 3 (.int .i64) v0_4.1)] (by (simp only [go_sem, hb7]) <;> (repeat' with_reducible apply And.intro) <;> first | assumption | rfl | omega | (unfold maxLen; omega)) ?_
        refine athen_n ?_
        refine AW.seq ?_
        refine AW.draw tab_ok mixed_ok [(1, [35]), (3, [35, 37]), (6, [1902]), (7, [1903]), (8, [1904])] [(2, [1902, 40000]), (4, [1903]), (5, [1904]), (100006, []), (100007, []), (100008, [])] (by decide) (by kernel_rfl) ?_
        obtain ⟨c10, h⟩ := ck_some.1 h
        refine adops_cut 6 (fun K' hK9 => ?_)
        try dsimp only [List.drop_succ_cons, List.drop_zero, List.take_succ_cons, List.take_zero]
        simp only [go_sem, hb7]
        repeat (with_reducible refine And.intro (by first | assumption | rfl | omega | trivial | (unfold maxLen; omega)) ?_)
        refine hK9 _ ?_
        refine adops_cut 3 (fun K' hK11 => ?_)
        try dsimp only [List.drop_succ_cons, List.drop_zero, List.take_succ_cons, List.take_zero]
        simp only [go_sem, hb7]
        repeat (with_reducible refine And.intro (by first | assumption | rfl | omega | trivial | (unfold maxLen; omega)) ?_)
        refine hK11 _ ?_
        refine adops_nil ?_
        refine athen_n ?_
        refine AW.weaken (s' := ⟨fr [(1, .sl (.int .i64) w), (3, .bp 1900 0), (5, .bp 1901 0), (6, .bp 1902 0), (7, .bp 1903 0), (8, .bp 1904 0)], hpGet [(37, .arr 3 (.int .i64) (y1.1 :: v0_4.1)), (1900, .box 59 (cellsX T59 t)), (1901, .box 25 [.sl (.int .i64) v0]), (1902, .box 25 [.own 37]), (1903, .box 25 [.sl (.int .i64) v0_4.2.1]), (1904, .box 25 [.sl (.int .i64) v0_4.2.2])], gt⟩) (Wk.to (by (simp only [go_sem, hb7]) <;> (repeat' with_reducible apply And.intro) <;> first | assumption | rfl | omega | (unfold maxLen; omega))) ?_
        refine AW.ret ?_
        refine ablock_r ?_
        obtain rfl := Option.some.inj h
        exact rpost_ret rfl rfl [] [] [] rfl (by (simp only [go_sem, hb7]) <;> (repeat' with_reducible apply And.intro) <;> first | assumption | rfl | omega | (unfold maxLen; omega))
      · rw [if_neg (Bool.eq_false_iff.1 hb7)] at h
        refine AW.skip ?_
        refine ablock_n ?_
        obtain rfl := Option.some.inj h
        exact rpost_next rfl [] [] [] rfl (by (simp only [go_sem, hb7]) <;> (repeat' with_reducible apply And.intro) <;> first | assumption | rfl | omega | (unfold maxLen; omega))
    · cases x3 with
      | inl st1_2 =>
        try simp only at h
        refine ablock_n ?_
        refine athen_n ?_
        exact AW.weaken (Wk.le [] [] [] rfl (by (simp only [go_sem]) <;> (repeat' with_reducible apply And.intro) <;> first | assumption | rfl | omega | (unfold maxLen; omega)) (by (simp only [go_sem]) <;> (repeat' with_reducible apply And.intro) <;> first | assumption | rfl | omega | (unfold maxLen; omega))) (hk_weave_ties_split_k1 () h)
      | inr r1 =>
        try simp only at h
        refine ablock_r ?_
        refine athen_r ?_
        obtain rfl := Option.some.inj h
        exact ⟨rfl, [], [], [(2000, 37)], rfl, (by (simp only [go_sem]) <;> (repeat' with_reducible apply And.intro) <;> first | assumption | rfl | omega | (unfold maxLen; omega))⟩

theorem hc_weave_ties_split : ∀ (n : Nat) (t : (El T59)) (w : List Int) (v0 : List Int) {r : (List Int) × (List Int) × (List Int)}, weave_ties_split n t w v0 = some r → HC Try.prog 86 [] [.agg (cellsX T59 t), .sl (.int .i64) w, .sl (.int .i64) v0] [(2000, .arr 3 (.int .i64) r.1)] (.tup [.own 2000, .sl (.int .i64) r.2.1, .sl (.int .i64) r.2.2]) := by
  intro n
  induction n with
  | zero => intro t w v0 r h; cases h
  | succ n ih => intro t w v0 r h; exact hc_weave_ties_splitF (weave_ties_split n) ih t w v0 h

set_option maxRecDepth 100000 in
set_option maxHeartbeats 2000000 in
theorem hc_weave_Common (l : Int × (List (Int × Int))) (w : List Int) (v0 : List Int) {r : (List Int) × Int} (h : weave_Common l w v0 = some r) : HC Try.prog 50 [] [.agg [.int .i64 l.1, .sl (.pair (.int .i64) (.int .i64)) l.2], .sl (.int .i64) w, .sl (.int .i64) v0] [] (.tup [.sl (.int .i64) r.1, .int .i64 r.2]) := by
  unfold weave_Common at h
  refine HC.of_body tab_ok (res := [.tmp 6, .tmp 7]) Try.func50 rfl (by kernel_rfl) rfl (nt := 35) rfl (by decide) (by simp) ?_
  refine AW.seq ?_
  refine AW.ops ?_
  refine AO.allF tab_ok (by decide) [(1, .sl (.int .i64) w), (2, .sl (.int .i64) v0), (3, .bp 3 0)] [(3, .box 24 [.int .i64 l.1, .sl (.pair (.int .i64) (.int .i64)) l.2])] (by (simp only [go_sem]) <;> (repeat' with_reducible apply And.intro) <;> first | assumption | rfl | omega | (unfold maxLen; omega)) ?_
  refine athen_n ?_
  refine AW.seq ?_
  refine AW.ops ?_
  refine AO.segF tab_ok 4 (by decide) [(1, .sl (.int .i64) w), (2, .sl (.int .i64) v0), (14, .agg [.int .i64 l.1, .sl (.pair (.int .i64) (.int .i64)) l.2]), (17, .own 17)] [(17, .arr 25 (.sl (.int .i64)) [w, v0])] (by (simp only [go_sem]) <;> (repeat' with_reducible apply And.intro) <;> first | assumption | rfl | omega | (unfold maxLen; omega)) ?_
  obtain ⟨v0_2, hv1, h⟩ := Option.bind_eq_some_iff.1 h
  refine AO.call tab_ok (by decide) rfl rfl rfl (fun _ h => h) [17] [] (hc_weave_checked l [w, v0] hv1) rfl (by (simp only [go_sem]) <;> (repeat' with_reducible apply And.intro) <;> first | assumption | rfl | omega | (unfold maxLen; omega)) (by (simp only [go_sem]) <;> (repeat' with_reducible apply And.intro) <;> first | assumption | rfl | omega | (unfold maxLen; omega)) [(1, .sl (.int .i64) w), (2, .sl (.int .i64) v0), (18, .tup [.agg (cellsX T59 v0_2.1), .int .i64 v0_2.2])] [] (by (simp only [go_sem]) <;> (repeat' with_reducible apply And.intro) <;> first | assumption | rfl | omega | (unfold maxLen; omega)) ?_
  refine AO.allF tab_ok (by decide) [(1, .sl (.int .i64) w), (2, .sl (.int .i64) v0), (8, .bp 8 0), (9, .int .i64 v0_2.2)] [(8, .box 59 (cellsX T59 v0_2.1))] (by (simp only [go_sem]) <;> (repeat' with_reducible apply And.intro) <;> first | assumption | rfl | omega | (unfold maxLen; omega)) ?_
  refine athen_n ?_
  refine AW.seq ?_
  refine AW.seq ?_
  refine AW.ops ?_
  refine AO.allF tab_ok (by decide) [(1, .sl (.int .i64) w), (2, .sl (.int .i64) v0), (8, .bp 8 0), (9, .int .i64 v0_2.2), (22, .bool (!(decide (v0_2.2 = 0))))] [(8, .box 59 (cellsX T59 v0_2.1))] (by (simp only [go_sem]) <;> (repeat' with_reducible apply And.intro) <;> first | assumption | rfl | omega | (unfold maxLen; omega)) ?_
  refine athen_n ?_
  refine AW.cond (b := (!(decide (v0_2.2 = 0)))) rfl (fun hb2 => ?_) (fun hb2 => ?_)
  · rw [if_pos hb2] at h
    refine AW.seq ?_
    refine AW.ops ?_
    refine AO.allF tab_ok (by decide) [(6, .cv (.slice none 0 0)), (7, .int .i64 v0_2.2)] [] (by (simp only [go_sem, hb2]) <;> (repeat' with_reducible apply And.intro) <;> first | assumption | rfl | omega | (unfold maxLen; omega)) ?_
    refine athen_n ?_
    refine AW.ret ?_
    refine athen_r ?_
    obtain rfl := Option.some.inj h
    exact ⟨rfl, [], [], [], rfl, (by (simp only [go_sem, hb2]) <;> (repeat' with_reducible apply And.intro) <;> first | assumption | rfl | omega | (unfold maxLen; omega))⟩
  · rw [if_neg (Bool.eq_false_iff.1 hb2)] at h
    refine AW.skip ?_
    refine athen_n ?_
    refine AW.seq ?_
    refine AW.ops ?_
    refine AO.segF tab_ok 3 (by decide) [(8, .bp 8 0), (25, .agg (cellsX T59 v0_2.1)), (26, .sl (.int .i64) w), (27, .sl (.int .i64) v0)] [(8, .box 59 (cellsX T59 v0_2.1))] (by (simp only [go_sem, hb2]) <;> (repeat' with_reducible apply And.intro) <;> first | assumption | rfl | omega | (unfold maxLen; omega)) ?_
    obtain ⟨v0_3, hv3, h⟩ := Option.bind_eq_some_iff.1 h
    refine AO.call tab_ok (by decide) rfl rfl rfl (fun _ h => h) [] [] (hc_weave_ties_split fuel v0_2.1 w v0 hv3) rfl (by (simp only [go_sem, hb2]) <;> (repeat' with_reducible apply And.intro) <;> first | assumption | rfl | omega | (unfold maxLen; omega)) (by (simp only [go_sem, hb2]) <;> (repeat' with_reducible apply And.intro) <;> first | assumption | rfl | omega | (unfold maxLen; omega)) [(8, .bp 8 0), (28, .tup [.own 38000, .sl (.int .i64) v0_3.2.1, .sl (.int .i64) v0_3.2.2])] [(8, .box 59 (cellsX T59 v0_2.1)), (38000, .arr 3 (.int .i64) v0_3.1)] (by (simp only [go_sem, hb2]) <;> (repeat' with_reducible apply And.intro) <;> first | assumption | rfl | omega | (unfold maxLen; omega)) ?_
    refine AO.allF tab_ok (by decide) [(8, .bp 8 0), (10, .own 38000)] [(8, .box 59 (cellsX T59 v0_2.1)), (38000, .arr 3 (.int .i64) v0_3.1)] (by (simp only [go_sem, hb2]) <;> (repeat' with_reducible apply And.intro) <;> first | assumption | rfl | omega | (unfold maxLen; omega)) ?_
    refine athen_n ?_
    refine AW.seq ?_
    refine AW.ops ?_
    refine AO.segF tab_ok 2 (by decide) [(32, .agg (cellsX T59 v0_2.1)), (33, .own 38000)] [(38000, .arr 3 (.int .i64) v0_3.1)] (by (simp only [go_sem, hb2]) <;> (repeat' with_reducible apply And.intro) <;> first | assumption | rfl | omega | (unfold maxLen; omega)) ?_
    obtain ⟨v0_4, hv4, h⟩ := Option.bind_eq_some_iff.1 h
    refine AO.call tab_ok (by decide) rfl rfl rfl (fun _ h => h) [38000] [] (hc_weave_ties_first v0_2.1 v0_3.1 hv4) rfl (by (simp only [go_sem, hb2]) <;> (repeat' with_reducible apply And.intro) <;> first | assumption | rfl | omega | (unfold maxLen; omega)) (by (simp only [go_sem, hb2]) <;> (repeat' with_reducible apply And.intro) <;> first | assumption | rfl | omega | (unfold maxLen; omega)) [(34, .sl (.int .i64) v0_4)] [] (by (simp only [go_sem, hb2]) <;> (repeat' with_reducible apply And.intro) <;> first | assumption | rfl | omega | (unfold maxLen; omega)) ?_
    refine AO.allF tab_ok (by decide) [(6, .sl (.int .i64) v0_4), (7, .int .i64 0)] [] (by (simp only [go_sem, hb2]) <;> (repeat' with_reducible apply And.intro) <;> first | assumption | rfl | omega | (unfold maxLen; omega)) ?_
    refine athen_n ?_
    refine AW.ret ?_
    obtain rfl := Option.some.inj h
    exact ⟨rfl, [], [], [], rfl, (by (simp only [go_sem, hb2]) <;> (repeat' with_reducible apply And.intro) <;> first | assumption | rfl | omega | (unfold maxLen; omega))⟩

set_option maxRecDepth 100000 in
set_option maxHeartbeats 2000000 in
theorem hc_weave_Both (l : Int × (List (Int × Int))) (w : List Int) (v0 : List Int) {r : (List Int) × Int} (h : weave_Both l w v0 = some r) : HC Try.prog 52 [] [.agg [.int .i64 l.1, .sl (.pair (.int .i64) (.int .i64)) l.2], .sl (.int .i64) w, .sl (.int .i64) v0] [] (.tup [.sl (.int .i64) r.1, .int .i64 r.2]) := by
  unfold weave_Both at h
  refine HC.of_body tab_ok (res := [.tmp 6, .tmp 7]) Try.func52 rfl (by kernel_rfl) rfl (nt := 61) rfl (by decide) (by simp) ?_
  refine AW.seq ?_
  refine AW.ops ?_
  refine AO.allF tab_ok (by decide) [(1, .sl (.int .i64) w), (2, .sl (.int .i64) v0), (3, .bp 3 0)] [(3, .box 24 [.int .i64 l.1, .sl (.pair (.int .i64) (.int .i64)) l.2])] (by (simp only [go_sem]) <;> (repeat' with_reducible apply And.intro) <;> first | assumption | rfl | omega | (unfold maxLen; omega)) ?_
  refine athen_n ?_
  refine AW.seq ?_
  refine AW.ops ?_
  refine AO.segF tab_ok 4 (by decide) [(1, .sl (.int .i64) w), (2, .sl (.int .i64) v0), (16, .agg [.int .i64 l.1, .sl (.pair (.int .i64) (.int .i64)) l.2]), (19, .own 19)] [(19, .arr 25 (.sl (.int .i64)) [w, v0])] (by (simp only [go_sem]) <;> (repeat' with_reducible apply And.intro) <;> first | assumption | rfl | omega | (unfold maxLen; omega)) ?_
  obtain ⟨v0_2, hv1, h⟩ := Option.bind_eq_some_iff.1 h
  refine AO.call tab_ok (by decide) rfl rfl rfl (fun _ h => h) [19] [] (hc_weave_checked l [w, v0] hv1) rfl (by (simp only [go_sem]) <;> (repeat' with_reducible apply And.intro) <;> first | assumption | rfl | omega | (unfold maxLen; omega)) (by (simp only [go_sem]) <;> (repeat' with_reducible apply And.intro) <;> first | assumption | rfl | omega | (unfold maxLen; omega)) [(1, .sl (.int .i64) w), (2, .sl (.int .i64) v0), (20, .tup [.agg (cellsX T59 v0_2.1), .int .i64 v0_2.2])] [] (by (simp only [go_sem]) <;> (repeat' with_reducible apply And.intro) <;> first | assumption | rfl | omega | (unfold maxLen; omega)) ?_
  refine AO.allF tab_ok (by decide) [(1, .sl (.int .i64) w), (2, .sl (.int .i64) v0), (8, .bp 8 0), (9, .int .i64 v0_2.2)] [(8, .box 59 (cellsX T59 v0_2.1))] (by (simp only [go_sem]) <;> (repeat' with_reducible apply And.intro) <;> first | assumption | rfl | omega | (unfold maxLen; omega)) ?_
  refine athen_n ?_
  refine AW.seq ?_
  refine AW.seq ?_
  refine AW.ops ?_
  refine AO.allF tab_ok (by decide) [(1, .sl (.int .i64) w), (2, .sl (.int .i64) v0), (8, .bp 8 0), (9, .int .i64 v0_2.2), (24, .bool (!(decide (v0_2.2 = 0))))] [(8, .box 59 (cellsX T59 v0_2.1))] (by (simp only [go_sem]) <;> (repeat' with_reducible apply And.intro) <;> first | assumption | rfl | omega | (unfold maxLen; omega)) ?_
  refine athen_n ?_
  refine AW.cond (b := (!(decide (v0_2.2 = 0)))) rfl (fun hb2 => ?_) (fun hb2 => ?_)
  · rw [if_pos hb2] at h
    refine AW.seq ?_
    refine AW.ops ?_
    refine AO.allF tab_ok (by decide) [(6, .cv (.slice none 0 0)), (7, .int .i64 v0_2.2)] [] (by (simp only [go_sem, hb2]) <;> (repeat' with_reducible apply And.intro) <;> first | assumption | rfl | omega | (unfold maxLen; omega)) ?_
    refine athen_n ?_
    refine AW.ret ?_
    refine athen_r ?_
    obtain rfl := Option.some.inj h
    exact ⟨rfl, [], [], [], rfl, (by (simp only [go_sem, hb2]) <;> (repeat' with_reducible apply And.intro) <;> first | assumption | rfl | omega | (unfold maxLen; omega))⟩
  · rw [if_neg (Bool.eq_false_iff.1 hb2)] at h
    refine AW.skip ?_
    refine athen_n ?_
    refine AW.seq ?_
    refine AW.ops ?_
    refine AO.segF tab_ok 3 (by decide) [(8, .bp 8 0), (27, .agg (cellsX T59 v0_2.1)), (28, .sl (.int .i64) w), (29, .sl (.int .i64) v0)] [(8, .box 59 (cellsX T59 v0_2.1))] (by (simp only [go_sem, hb2]) <;> (repeat' with_reducible apply And.intro) <;> first | assumption | rfl | omega | (unfold maxLen; omega)) ?_
    obtain ⟨v0_3, hv3, h⟩ := Option.bind_eq_some_iff.1 h
    refine AO.call tab_ok (by decide) rfl rfl rfl (fun _ h => h) [] [] (hc_weave_ties_split fuel v0_2.1 w v0 hv3) rfl (by (simp only [go_sem, hb2]) <;> (repeat' with_reducible apply And.intro) <;> first | assumption | rfl | omega | (unfold maxLen; omega)) (by (simp only [go_sem, hb2]) <;> (repeat' with_reducible apply And.intro) <;> first | assumption | rfl | omega | (unfold maxLen; omega)) [(8, .bp 8 0), (30, .tup [.own 40000, .sl (.int .i64) v0_3.2.1, .sl (.int .i64) v0_3.2.2])] [(8, .box 59 (cellsX T59 v0_2.1)), (40000, .arr 3 (.int .i64) v0_3.1)] (by (simp only [go_sem, hb2]) <;> (repeat' with_reducible apply And.intro) <;> first | assumption | rfl | omega | (unfold maxLen; omega)) ?_
    refine AO.allF tab_ok (by decide) [(8, .bp 8 0), (10, .own 40000), (11, .sl (.int .i64) v0_3.2.1), (12, .sl (.int .i64) v0_3.2.2)] [(8, .box 59 (cellsX T59 v0_2.1)), (40000, .arr 3 (.int .i64) v0_3.1)] (by (simp only [go_sem, hb2]) <;> (repeat' with_reducible apply And.intro) <;> first | assumption | rfl | omega | (unfold maxLen; omega)) ?_
    refine athen_n ?_
    refine AW.have1 (fun _ : Unit => weave_Both_k1 v0_2 v0_3 = some r) (fun _ => ⟨fr [(8, .bp 8 0), (10, .own 40000), (11, .sl (.int .i64) v0_3.2.1), (12, .sl (.int .i64) v0_3.2.2)], hpGet [(8, .box 59 (cellsX T59 v0_2.1)), (40000, .arr 3 (.int .i64) v0_3.1)], gt⟩) (fun _ h => ?_) (fun hk_weave_Both_k1 => ?_)
    · unfold weave_Both_k1 at h
      refine AW.seq ?_
      refine AW.seq ?_
      refine AW.ops ?_
      obtain ⟨c4, h⟩ := ck_some.1 h
      obtain ⟨c5, h⟩ := ck_some.1 h
      refine AO.allF tab_ok (by decide) [(8, .bp 8 0), (10, .own 40000), (11, .sl (.int .i64) v0_3.2.1), (12, .sl (.int .i64) v0_3.2.2), (53, .bool (decide (10 < (((v0_3.1.length : Int) + (v0_3.2.1.length : Int)) + (v0_3.2.2.length : Int)))))] [(8, .box 59 (cellsX T59 v0_2.1)), (40000, .arr 3 (.int .i64) v0_3.1)] (by (simp only [go_sem, hb2]) <;> (repeat' with_reducible apply And.intro) <;> first | assumption | rfl | omega | (unfold maxLen; omega)) ?_
      refine athen_n ?_
      refine AW.cond (b := (decide (10 < (((v0_3.1.length : Int) + (v0_3.2.1.length : Int)) + (v0_3.2.2.length : Int))))) rfl (fun hb6 => ?_) (fun hb6 => ?_)
      · rw [if_pos hb6] at h
        refine AW.seq ?_
        refine AW.ops ?_
        refine AO.allF tab_ok (by decide) [(6, .cv (.slice none 0 0)), (7, .int .i64 4)] [] (by (simp only [go_sem, hb2, hb6]) <;> (repeat' with_reducible apply And.intro) <;> first | assumption | rfl | omega | (unfold maxLen; omega)) ?_
        refine athen_n ?_
        refine AW.ret ?_
        refine athen_r ?_
        obtain rfl := Option.some.inj h
        exact ⟨rfl, [], [], [], rfl, (by (simp only [go_sem, hb2, hb6]) <;> (repeat' with_reducible apply And.intro) <;> first | assumption | rfl | omega | (unfold maxLen; omega))⟩
      · rw [if_neg (Bool.eq_false_iff.1 hb6)] at h
        refine AW.skip ?_
        refine athen_n ?_
        refine AW.seq ?_
        refine AW.draw tab_ok mixed_ok [(4, [58, 40000]), (5, [69000]), (6, [69000])] [(0, [8])] (by decide) (by kernel_rfl) ?_
        refine adops_cut 5 (fun K' hK7 => ?_)
        try dsimp only [List.drop_succ_cons, List.drop_zero, List.take_succ_cons, List.take_zero]
        simp only [go_sem, hb2, hb6]
        repeat (with_reducible refine And.intro (by first | assumption | rfl | omega | trivial | (unfold maxLen; omega)) ?_)
        refine hK7 _ ?_
        obtain ⟨v0_5, hv8, h⟩ := Option.bind_eq_some_iff.1 h
        refine adops.call (by first | trivial | rfl) rfl rfl rfl (fun _ h => h) [58] [] (hc_slices_Concat [v0_3.1, v0_3.2.1, v0_3.2.2] hv8) rfl (by (simp only [go_sem, hb2, hb6]) <;> (repeat' with_reducible apply And.intro) <;> first | assumption | rfl | omega | (unfold maxLen; omega)) (by (simp only [go_sem, hb2, hb6]) <;> (repeat' with_reducible apply And.intro) <;> first | assumption | rfl | omega | (unfold maxLen; omega)) rfl ?_
        obtain ⟨v0_6, hv9, h⟩ := Option.bind_eq_some_iff.1 h
        refine adops.call (by first | trivial | rfl) rfl rfl rfl (fun _ h => h) [69000] [] (hc_weave_ties_first v0_2.1 v0_5 hv9) rfl (by (simp only [go_sem, hb2, hb6]) <;> (repeat' with_reducible apply And.intro) <;> first | assumption | rfl | omega | (unfold maxLen; omega)) (by (simp only [go_sem, hb2, hb6]) <;> (repeat' with_reducible apply And.intro) <;> first | assumption | rfl | omega | (unfold maxLen; omega)) rfl ?_
        refine adops_cut 2 (fun K' hK10 => ?_)
        try dsimp only [List.drop_succ_cons, List.drop_zero, List.take_succ_cons, List.take_zero]
        simp only [go_sem, hb2, hb6]
        repeat (with_reducible refine And.intro (by first | assumption | rfl | omega | trivial | (unfold maxLen; omega)) ?_)
        refine hK10 _ ?_
        refine adops_nil ?_
        refine athen_n ?_
        refine AW.weaken (s' := ⟨fr [(6, .sl (.int .i64) v0_6), (7, .int .i64 0)], hpGet [], gt⟩) (Wk.to (by (simp only [go_sem, hb2, hb6]) <;> (repeat' with_reducible apply And.intro) <;> first | assumption | rfl | omega | (unfold maxLen; omega))) ?_
        refine AW.ret ?_
        obtain rfl := Option.some.inj h
        exact ⟨rfl, [], [], [], rfl, (by (simp only [go_sem, hb2, hb6]) <;> (repeat' with_reducible apply And.intro) <;> first | assumption | rfl | omega | (unfold maxLen; omega))⟩
    · refine AW.seq ?_
      refine AW.seq ?_
      refine AW.ops ?_
      refine AO.allF tab_ok (by decide) [(8, .bp 8 0), (10, .own 40000), (11, .sl (.int .i64) v0_3.2.1), (12, .sl (.int .i64) v0_3.2.2), (34, .sl (.int .i64) v0_3.2.1), (35, .int .i64 (v0_3.2.1.length : Int)), (36, .int .i64 0)] [(8, .box 59 (cellsX T59 v0_2.1)), (40000, .arr 3 (.int .i64) v0_3.1)] (by (simp only [go_sem, hb2]) <;> (repeat' with_reducible apply And.intro) <;> first | assumption | rfl | omega | (unfold maxLen; omega)) ?_
      refine athen_n ?_
      refine AW.block ?_
      obtain ⟨rv15, hw11, ho12⟩ := Option.bind_eq_some_iff.1 h
      refine AW.loopO (weave_Both_b1 v0_2 v0_3) (fun st1 => ⟨fr [(8, .bp 8 0), (10, .own 40000), (11, .sl (.int .i64) v0_3.2.1), (12, .sl (.int .i64) v0_3.2.2), (34, .sl (.int .i64) v0_3.2.1), (35, .int .i64 (v0_3.2.1.length : Int)), (36, .int .i64 st1)], hpGet [(8, .box 59 (cellsX T59 v0_2.1)), (40000, .arr 3 (.int .i64) v0_3.1)], gt⟩) 0 hw11 (Wk.le [] [] [] rfl (by (simp only [go_sem, hb2]) <;> (repeat' with_reducible apply And.intro) <;> first | assumption | rfl | omega | (unfold maxLen; omega)) (by (simp only [go_sem, hb2]) <;> (repeat' with_reducible apply And.intro) <;> first | assumption | rfl | omega | (unfold maxLen; omega))) ?_
      intro st1 x14 h hd13
      unfold weave_Both_b1 at h
      refine AW.seq ?_
      refine AW.ops ?_
      refine AO.allF tab_ok (by decide) [(8, .bp 8 0), (10, .own 40000), (11, .sl (.int .i64) v0_3.2.1), (12, .sl (.int .i64) v0_3.2.2), (34, .sl (.int .i64) v0_3.2.1), (35, .int .i64 (v0_3.2.1.length : Int)), (36, .int .i64 st1), (37, .bool (decide (st1 < (v0_3.2.1.length : Int))))] [(8, .box 59 (cellsX T59 v0_2.1)), (40000, .arr 3 (.int .i64) v0_3.1)] (by (simp only [go_sem, hb2]) <;> (repeat' with_reducible apply And.intro) <;> first | assumption | rfl | omega | (unfold maxLen; omega)) ?_
      refine athen_n ?_
      refine AW.seq ?_
      refine AW.cond (b := (decide (st1 < (v0_3.2.1.length : Int)))) rfl (fun hb16 => ?_) (fun hb16 => ?_)
      · rw [if_pos hb16] at h
        refine AW.skip ?_
        refine athen_n ?_
        refine AW.seq ?_
        refine AW.block ?_
        refine AW.seq ?_
        refine AW.ops ?_
        obtain ⟨c17, h⟩ := ck_some.1 h
        obtain ⟨c18, h⟩ := ck_some.1 h
        refine AO.allF tab_ok (by decide) [(8, .bp 8 0), (10, .own 40000), (11, .sl (.int .i64) v0_3.2.1), (12, .sl (.int .i64) v0_3.2.2), (14, .int .i64 (v0_3.2.1.getD st1.toNat 0)), (34, .sl (.int .i64) v0_3.2.1), (35, .int .i64 (v0_3.2.1.length : Int)), (36, .int .i64 st1)] [(8, .box 59 (cellsX T59 v0_2.1)), (40000, .arr 3 (.int .i64) v0_3.1)] (by (simp only [go_sem, hb2, hb16]) <;> (repeat' with_reducible apply And.intro) <;> first | assumption | rfl | omega | (unfold maxLen; omega)) ?_
        refine athen_n ?_
        refine AW.seq ?_
        refine AW.ops ?_
        refine AO.segF tab_ok 3 (by decide) [(8, .bp 8 0), (10, .own 40000), (11, .sl (.int .i64) v0_3.2.1), (12, .sl (.int .i64) v0_3.2.2), (34, .sl (.int .i64) v0_3.2.1), (35, .int .i64 (v0_3.2.1.length : Int)), (36, .int .i64 st1), (40, .agg (cellsX T59 v0_2.1)), (41, .int .i64 (v0_3.2.1.getD st1.toNat 0)), (42, .sl (.int .i64) v0_3.2.2)] [(8, .box 59 (cellsX T59 v0_2.1)), (40000, .arr 3 (.int .i64) v0_3.1)] (by (simp only [go_sem, hb2, hb16]) <;> (repeat' with_reducible apply And.intro) <;> first | assumption | rfl | omega | (unfold maxLen; omega)) ?_
        obtain ⟨v0_4, hv19, h⟩ := Option.bind_eq_some_iff.1 h
        refine AO.call tab_ok (by decide) rfl rfl rfl (fun _ h => h) [] [] (hc_weave_ties_onAny v0_2.1 (v0_3.2.1.getD st1.toNat 0) v0_3.2.2 hv19) rfl (by (simp only [go_sem, hb2, hb16]) <;> (repeat' with_reducible apply And.intro) <;> first | assumption | rfl | omega | (unfold maxLen; omega)) (by (simp only [go_sem, hb2, hb16]) <;> (repeat' with_reducible apply And.intro) <;> first | assumption | rfl | omega | (unfold maxLen; omega)) [(8, .bp 8 0), (10, .own 40000), (11, .sl (.int .i64) v0_3.2.1), (12, .sl (.int .i64) v0_3.2.2), (34, .sl (.int .i64) v0_3.2.1), (35, .int .i64 (v0_3.2.1.length : Int)), (36, .int .i64 st1), (43, .bool v0_4)] [(8, .box 59 (cellsX T59 v0_2.1)), (40000, .arr 3 (.int .i64) v0_3.1)] (by (simp only [go_sem, hb2, hb16]) <;> (repeat' with_reducible apply And.intro) <;> first | assumption | rfl | omega | (unfold maxLen; omega)) ?_
        refine AO.allF tab_ok (by decide) [(8, .bp 8 0), (10, .own 40000), (11, .sl (.int .i64) v0_3.2.1), (12, .sl (.int .i64) v0_3.2.2), (34, .sl (.int .i64) v0_3.2.1), (35, .int .i64 (v0_3.2.1.length : Int)), (36, .int .i64 st1), (43, .bool v0_4)] [(8, .box 59 (cellsX T59 v0_2.1)), (40000, .arr 3 (.int .i64) v0_3.1)] (by (simp only [go_sem, hb2, hb16]) <;> (repeat' with_reducible apply And.intro) <;> first | assumption | rfl | omega | (unfold maxLen; omega)) ?_
        refine athen_n ?_
        refine AW.cond (b := v0_4) rfl (fun hb20 => ?_) (fun hb20 => ?_)
        · rw [if_pos hb20] at h
          refine AW.seq ?_
          refine AW.ops ?_
          refine AO.allF tab_ok (by decide) [(6, .cv (.slice none 0 0)), (7, .int .i64 5)] [] (by (simp only [go_sem, hb2, hb16, hb20]) <;> (repeat' with_reducible apply And.intro) <;> first | assumption | rfl | omega | (unfold maxLen; omega)) ?_
          refine athen_n ?_
          refine AW.ret ?_
          refine ablock_r ?_
          refine athen_r ?_
          obtain rfl := Option.some.inj h
          rw [← hd13 _ rfl] at ho12
          have h := ho12
          try simp only at h
          refine athen_r ?_
          refine ablock_r ?_
          refine athen_r ?_
          obtain rfl := Option.some.inj h
          exact ⟨rfl, [], [], [], rfl, (by (simp only [go_sem, hb2, hb16, hb20]) <;> (repeat' with_reducible apply And.intro) <;> first | assumption | rfl | omega | (unfold maxLen; omega))⟩
        · rw [if_neg (Bool.eq_false_iff.1 hb20)] at h
          refine AW.skip ?_
          refine ablock_n ?_
          refine athen_n ?_
          refine AW.ops ?_
          obtain ⟨c21, h⟩ := ck_some.1 h
          refine AO.allF tab_ok (by decide) [(8, .bp 8 0), (10, .own 40000), (11, .sl (.int .i64) v0_3.2.1), (12, .sl (.int .i64) v0_3.2.2), (34, .sl (.int .i64) v0_3.2.1), (35, .int .i64 (v0_3.2.1.length : Int)), (36, .int .i64 (st1 + 1))] [(8, .box 59 (cellsX T59 v0_2.1)), (40000, .arr 3 (.int .i64) v0_3.1)] (by (simp only [go_sem, hb2, hb16, hb20]) <;> (repeat' with_reducible apply And.intro) <;> first | assumption | rfl | omega | (unfold maxLen; omega)) ?_
          obtain rfl := Option.some.inj h
          exact ⟨_, rfl, Wk.le [] [] [] rfl (by (simp only [go_sem, hb2, hb16, hb20]) <;> (repeat' with_reducible apply And.intro) <;> first | assumption | rfl | omega | (unfold maxLen; omega)) (by (simp only [go_sem, hb2, hb16, hb20]) <;> (repeat' with_reducible apply And.intro) <;> first | assumption | rfl | omega | (unfold maxLen; omega))⟩
      · rw [if_neg (Bool.eq_false_iff.1 hb16)] at h
        refine AW.exit ?_
        refine athen_e ?_
        obtain rfl := Option.some.inj h
        rw [← hd13 _ rfl] at ho12
        have h := ho12
        try simp only at h
        refine athen_e ?_
        refine ablock_s ?_
        refine athen_n ?_
        exact AW.weaken (Wk.le [] [] [] rfl (by (simp only [go_sem, hb2, hb16]) <;> (repeat' with_reducible apply And.intro) <;> first | assumption | rfl | omega | (unfold maxLen; omega)) (by (simp only [go_sem, hb2, hb16]) <;> (repeat' with_reducible apply And.intro) <;> first | assumption | rfl | omega | (unfold maxLen; omega))) (hk_weave_Both_k1 () h)

set_option maxRecDepth 100000 in
set_option maxHeartbeats 2000000 in
theorem hc_lineallaw03_valid (l : Int × (List (Int × Int))) (words : List (List Int)) {r : Bool} (h : lineallaw03_valid l words = some r) : HC Try.prog 54 [] [.agg [.int .i64 l.1, .sl (.pair (.int .i64) (.int .i64)) l.2], .sl (.sl (.int .i64)) words] [] (.bool r) := by
  unfold lineallaw03_valid at h
  refine HC.of_body tab_ok (res := [.tmp 4]) Try.func54 rfl (by kernel_rfl) rfl (nt := 26) rfl (by decide) (by simp) ?_
  refine AW.seq ?_
  refine AW.ops ?_
  refine AO.allF tab_ok (by decide) [(1, .sl (.sl (.int .i64)) words), (2, .bp 2 0)] [(2, .box 24 [.int .i64 l.1, .sl (.pair (.int .i64) (.int .i64)) l.2])] (by (simp only [go_sem]) <;> (repeat' with_reducible apply And.intro) <;> first | assumption | rfl | omega | (unfold maxLen; omega)) ?_
  refine athen_n ?_
  refine AW.seq ?_
  refine AW.seq ?_
  refine AW.ops ?_
  refine AO.segF tab_ok 2 (by decide) [(1, .sl (.sl (.int .i64)) words), (2, .bp 2 0), (7, .agg [.int .i64 l.1, .sl (.pair (.int .i64) (.int .i64)) l.2]), (8, .sl (.sl (.int .i64)) words)] [(2, .box 24 [.int .i64 l.1, .sl (.pair (.int .i64) (.int .i64)) l.2])] (by (simp only [go_sem]) <;> (repeat' with_reducible apply And.intro) <;> first | assumption | rfl | omega | (unfold maxLen; omega)) ?_
  obtain ⟨v0, hv1, h⟩ := Option.bind_eq_some_iff.1 h
  refine AO.call tab_ok (by decide) rfl rfl rfl (fun _ h => h) [] [] (hc_lineallaw03_Long l words hv1) rfl (by (simp only [go_sem]) <;> (repeat' with_reducible apply And.intro) <;> first | assumption | rfl | omega | (unfold maxLen; omega)) (by (simp only [go_sem]) <;> (repeat' with_reducible apply And.intro) <;> first | assumption | rfl | omega | (unfold maxLen; omega)) [(1, .sl (.sl (.int .i64)) words), (2, .bp 2 0), (9, .bool v0)] [(2, .box 24 [.int .i64 l.1, .sl (.pair (.int .i64) (.int .i64)) l.2])] (by (simp only [go_sem]) <;> (repeat' with_reducible apply And.intro) <;> first | assumption | rfl | omega | (unfold maxLen; omega)) ?_
  refine AO.segF tab_ok 1 (by decide) [(1, .sl (.sl (.int .i64)) words), (2, .bp 2 0), (10, .bool v0)] [(2, .box 24 [.int .i64 l.1, .sl (.pair (.int .i64) (.int .i64)) l.2])] (by (simp only [go_sem]) <;> (repeat' with_reducible apply And.intro) <;> first | assumption | rfl | omega | (unfold maxLen; omega)) ?_
  rcases Bool.eq_false_or_eq_true v0 with hb2 | hb2
  · rw [if_pos hb2] at h
    refine AO.weaken (s' := ⟨fr [(1, .sl (.sl (.int .i64)) words), (2, .bp 2 0), (10, .bool true)], hpGet [(2, .box 24 [.int .i64 l.1, .sl (.pair (.int .i64) (.int .i64)) l.2])], gt⟩) (Wk.to (by (simp only [go_sem, hb2]) <;> (repeat' with_reducible apply And.intro) <;> first | assumption | rfl | omega | (unfold maxLen; omega))) ?_
    refine AO.allF tab_ok (by decide) [(1, .sl (.sl (.int .i64)) words), (2, .bp 2 0), (14, .bool true)] [(2, .box 24 [.int .i64 l.1, .sl (.pair (.int .i64) (.int .i64)) l.2])] (by (simp only [go_sem, hb2]) <;> (repeat' with_reducible apply And.intro) <;> first | assumption | rfl | omega | (unfold maxLen; omega)) ?_
    refine athen_n ?_
    refine AW.cond (b := true) rfl (fun _ => ?_) (fun hb3 => by cases hb3)
    refine AW.seq ?_
    refine AW.ops ?_
    refine AO.allF tab_ok (by decide) [(4, .bool false)] [] (by (simp only [go_sem, hb2]) <;> (repeat' with_reducible apply And.intro) <;> first | assumption | rfl | omega | (unfold maxLen; omega)) ?_
    refine athen_n ?_
    refine AW.ret ?_
    refine athen_r ?_
    obtain rfl := Option.some.inj h
    exact ⟨rfl, [], [], [], rfl, (by (simp only [go_sem, hb2]) <;> (repeat' with_reducible apply And.intro) <;> first | assumption | rfl | omega | (unfold maxLen; omega))⟩
  · rw [if_neg (Bool.eq_false_iff.1 hb2)] at h
    refine AO.weaken (s' := ⟨fr [(1, .sl (.sl (.int .i64)) words), (2, .bp 2 0), (10, .bool false)], hpGet [(2, .box 24 [.int .i64 l.1, .sl (.pair (.int .i64) (.int .i64)) l.2])], gt⟩) (Wk.to (by (simp only [go_sem, hb2]) <;> (repeat' with_reducible apply And.intro) <;> first | assumption | rfl | omega | (unfold maxLen; omega))) ?_
    refine AO.segF tab_ok 1 (by decide) [(1, .sl (.sl (.int .i64)) words), (2, .bp 2 0), (10, .bool false), (11, .agg [.int .i64 l.1, .sl (.pair (.int .i64) (.int .i64)) l.2])] [(2, .box 24 [.int .i64 l.1, .sl (.pair (.int .i64) (.int .i64)) l.2])] (by (simp only [go_sem, hb2]) <;> (repeat' with_reducible apply And.intro) <;> first | assumption | rfl | omega | (unfold maxLen; omega)) ?_
    obtain ⟨v0_2, hv4, h⟩ := Option.bind_eq_some_iff.1 h
    refine AO.call tab_ok (by decide) rfl rfl rfl (fun _ h => ⟨fun _ => h, fun hn => absurd rfl hn⟩) [] [] (hc_linealref03_Valid l hv4) rfl (by (simp only [go_sem, hb2]) <;> (repeat' with_reducible apply And.intro) <;> first | assumption | rfl | omega | (unfold maxLen; omega)) (by (simp only [go_sem, hb2]) <;> (repeat' with_reducible apply And.intro) <;> first | assumption | rfl | omega | (unfold maxLen; omega)) [(1, .sl (.sl (.int .i64)) words), (2, .bp 2 0), (10, .bool false), (12, .bool v0_2)] [(2, .box 24 [.int .i64 l.1, .sl (.pair (.int .i64) (.int .i64)) l.2])] (by (simp only [go_sem, hb2]) <;> (repeat' with_reducible apply And.intro) <;> first | assumption | rfl | omega | (unfold maxLen; omega)) ?_
    refine AO.allF tab_ok (by decide) [(1, .sl (.sl (.int .i64)) words), (2, .bp 2 0), (14, .bool (!v0_2))] [(2, .box 24 [.int .i64 l.1, .sl (.pair (.int .i64) (.int .i64)) l.2])] (by (simp only [go_sem, hb2]) <;> (repeat' with_reducible apply And.intro) <;> first | assumption | rfl | omega | (unfold maxLen; omega)) ?_
    refine athen_n ?_
    refine AW.cond (b := (!v0_2)) rfl (fun hb5 => ?_) (fun hb5 => ?_)
    · rw [if_pos hb5] at h
      refine AW.seq ?_
      refine AW.ops ?_
      refine AO.allF tab_ok (by decide) [(4, .bool false)] [] (by (simp only [go_sem, hb2, hb5]) <;> (repeat' with_reducible apply And.intro) <;> first | assumption | rfl | omega | (unfold maxLen; omega)) ?_
      refine athen_n ?_
      refine AW.ret ?_
      refine athen_r ?_
      obtain rfl := Option.some.inj h
      exact ⟨rfl, [], [], [], rfl, (by (simp only [go_sem, hb2, hb5]) <;> (repeat' with_reducible apply And.intro) <;> first | assumption | rfl | omega | (unfold maxLen; omega))⟩
    · rw [if_neg (Bool.eq_false_iff.1 hb5)] at h
      refine AW.skip ?_
      refine athen_n ?_
      refine AW.have1 (fun _ : Unit => lineallaw03_valid_k1 = some r) (fun _ => ⟨fr [], hpGet [], gt⟩) (fun _ h => ?_) (fun hk_lineallaw03_valid_k1 => ?_)
      · unfold lineallaw03_valid_k1 at h
        refine AW.seq ?_
        refine AW.ops ?_
        refine AO.allF tab_ok (by decide) [(4, .bool true)] [] (by (simp only [go_sem, hb2, hb5]) <;> (repeat' with_reducible apply And.intro) <;> first | assumption | rfl | omega | (unfold maxLen; omega)) ?_
        refine athen_n ?_
        refine AW.ret ?_
        obtain rfl := Option.some.inj h
        exact ⟨rfl, [], [], [], rfl, (by (simp only [go_sem, hb2, hb5]) <;> (repeat' with_reducible apply And.intro) <;> first | assumption | rfl | omega | (unfold maxLen; omega))⟩
      · refine AW.seq ?_
        refine AW.seq ?_
        refine AW.ops ?_
        refine AO.allF tab_ok (by decide) [(2, .bp 2 0), (15, .sl (.sl (.int .i64)) words), (16, .int .i64 (words.length : Int)), (17, .int .i64 0)] [(2, .box 24 [.int .i64 l.1, .sl (.pair (.int .i64) (.int .i64)) l.2])] (by (simp only [go_sem, hb2, hb5]) <;> (repeat' with_reducible apply And.intro) <;> first | assumption | rfl | omega | (unfold maxLen; omega)) ?_
        refine athen_n ?_
        refine AW.block ?_
        obtain ⟨rv10, hw6, ho7⟩ := Option.bind_eq_some_iff.1 h
        refine AW.loopO (lineallaw03_valid_b1 l words) (fun st1 => ⟨fr [(2, .bp 2 0), (15, .sl (.sl (.int .i64)) words), (16, .int .i64 (words.length : Int)), (17, .int .i64 st1)], hpGet [(2, .box 24 [.int .i64 l.1, .sl (.pair (.int .i64) (.int .i64)) l.2])], gt⟩) 0 hw6 (Wk.le [] [] [] rfl (by (simp only [go_sem, hb2, hb5]) <;> (repeat' with_reducible apply And.intro) <;> first | assumption | rfl | omega | (unfold maxLen; omega)) (by (simp only [go_sem, hb2, hb5]) <;> (repeat' with_reducible apply And.intro) <;> first | assumption | rfl | omega | (unfold maxLen; omega))) ?_
        intro st1 x9 h hd8
        unfold lineallaw03_valid_b1 at h
        refine AW.seq ?_
        refine AW.ops ?_
        refine AO.allF tab_ok (by decide) [(2, .bp 2 0), (15, .sl (.sl (.int .i64)) words), (16, .int .i64 (words.length : Int)), (17, .int .i64 st1), (18, .bool (decide (st1 < (words.length : Int))))] [(2, .box 24 [.int .i64 l.1, .sl (.pair (.int .i64) (.int .i64)) l.2])] (by (simp only [go_sem, hb2, hb5]) <;> (repeat' with_reducible apply And.intro) <;> first | assumption | rfl | omega | (unfold maxLen; omega)) ?_
        refine athen_n ?_
        refine AW.seq ?_
        refine AW.cond (b := (decide (st1 < (words.length : Int)))) rfl (fun hb11 => ?_) (fun hb11 => ?_)
        · rw [if_pos hb11] at h
          refine AW.skip ?_
          refine athen_n ?_
          refine AW.seq ?_
          refine AW.block ?_
          refine AW.seq ?_
          refine AW.ops ?_
          obtain ⟨c12, h⟩ := ck_some.1 h
          obtain ⟨c13, h⟩ := ck_some.1 h
          refine AO.allF tab_ok (by decide) [(2, .bp 2 0), (6, .sl (.int .i64) (words.getD st1.toNat [])), (15, .sl (.sl (.int .i64)) words), (16, .int .i64 (words.length : Int)), (17, .int .i64 st1)] [(2, .box 24 [.int .i64 l.1, .sl (.pair (.int .i64) (.int .i64)) l.2])] (by (simp only [go_sem, hb2, hb5, hb11]) <;> (repeat' with_reducible apply And.intro) <;> first | assumption | rfl | omega | (unfold maxLen; omega)) ?_
          refine athen_n ?_
          refine AW.seq ?_
          refine AW.ops ?_
          refine AO.segF tab_ok 2 (by decide) [(2, .bp 2 0), (15, .sl (.sl (.int .i64)) words), (16, .int .i64 (words.length : Int)), (17, .int .i64 st1), (21, .agg [.int .i64 l.1, .sl (.pair (.int .i64) (.int .i64)) l.2]), (22, .sl (.int .i64) (words.getD st1.toNat []))] [(2, .box 24 [.int .i64 l.1, .sl (.pair (.int .i64) (.int .i64)) l.2])] (by (simp only [go_sem, hb2, hb5, hb11]) <;> (repeat' with_reducible apply And.intro) <;> first | assumption | rfl | omega | (unfold maxLen; omega)) ?_
          obtain ⟨v0_3, hv14, h⟩ := Option.bind_eq_some_iff.1 h
          refine AO.call tab_ok (by decide) rfl rfl rfl (fun _ h => h) [] [] (hc_linealref03_IsWord l (words.getD st1.toNat []) hv14) rfl (by (simp only [go_sem, hb2, hb5, hb11]) <;> (repeat' with_reducible apply And.intro) <;> first | assumption | rfl | omega | (unfold maxLen; omega)) (by (simp only [go_sem, hb2, hb5, hb11]) <;> (repeat' with_reducible apply And.intro) <;> first | assumption | rfl | omega | (unfold maxLen; omega)) [(2, .bp 2 0), (15, .sl (.sl (.int .i64)) words), (16, .int .i64 (words.length : Int)), (17, .int .i64 st1), (23, .bool v0_3)] [(2, .box 24 [.int .i64 l.1, .sl (.pair (.int .i64) (.int .i64)) l.2])] (by (simp only [go_sem, hb2, hb5, hb11]) <;> (repeat' with_reducible apply And.intro) <;> first | assumption | rfl | omega | (unfold maxLen; omega)) ?_
          refine AO.allF tab_ok (by decide) [(2, .bp 2 0), (15, .sl (.sl (.int .i64)) words), (16, .int .i64 (words.length : Int)), (17, .int .i64 st1), (24, .bool (!v0_3))] [(2, .box 24 [.int .i64 l.1, .sl (.pair (.int .i64) (.int .i64)) l.2])] (by (simp only [go_sem, hb2, hb5, hb11]) <;> (repeat' with_reducible apply And.intro) <;> first | assumption | rfl | omega | (unfold maxLen; omega)) ?_
          refine athen_n ?_
          refine AW.cond (b := (!v0_3)) rfl (fun hb15 => ?_) (fun hb15 => ?_)
          · rw [if_pos hb15] at h
            refine AW.seq ?_
            refine AW.ops ?_
            refine AO.allF tab_ok (by decide) [(4, .bool false)] [] (by (simp only [go_sem, hb2, hb5, hb11, hb15]) <;> (repeat' with_reducible apply And.intro) <;> first | assumption | rfl | omega | (unfold maxLen; omega)) ?_
            refine athen_n ?_
            refine AW.ret ?_
            refine ablock_r ?_
            refine athen_r ?_
            obtain rfl := Option.some.inj h
            rw [← hd8 _ rfl] at ho7
            have h := ho7
            try simp only at h
            refine athen_r ?_
            refine ablock_r ?_
            refine athen_r ?_
            obtain rfl := Option.some.inj h
            exact ⟨rfl, [], [], [], rfl, (by (simp only [go_sem, hb2, hb5, hb11, hb15]) <;> (repeat' with_reducible apply And.intro) <;> first | assumption | rfl | omega | (unfold maxLen; omega))⟩
          · rw [if_neg (Bool.eq_false_iff.1 hb15)] at h
            refine AW.skip ?_
            refine ablock_n ?_
            refine athen_n ?_
            refine AW.ops ?_
            obtain ⟨c16, h⟩ := ck_some.1 h
            refine AO.allF tab_ok (by decide) [(2, .bp 2 0), (15, .sl (.sl (.int .i64)) words), (16, .int .i64 (words.length : Int)), (17, .int .i64 (st1 + 1))] [(2, .box 24 [.int .i64 l.1, .sl (.pair (.int .i64) (.int .i64)) l.2])] (by (simp only [go_sem, hb2, hb5, hb11, hb15]) <;> (repeat' with_reducible apply And.intro) <;> first | assumption | rfl | omega | (unfold maxLen; omega)) ?_
            obtain rfl := Option.some.inj h
            exact ⟨_, rfl, Wk.le [] [] [] rfl (by (simp only [go_sem, hb2, hb5, hb11, hb15]) <;> (repeat' with_reducible apply And.intro) <;> first | assumption | rfl | omega | (unfold maxLen; omega)) (by (simp only [go_sem, hb2, hb5, hb11, hb15]) <;> (repeat' with_reducible apply And.intro) <;> first | assumption | rfl | omega | (unfold maxLen; omega))⟩
        · rw [if_neg (Bool.eq_false_iff.1 hb11)] at h
          refine AW.exit ?_
          refine athen_e ?_
          obtain rfl := Option.some.inj h
          rw [← hd8 _ rfl] at ho7
          have h := ho7
          try simp only at h
          refine athen_e ?_
          refine ablock_s ?_
          refine athen_n ?_
          exact AW.weaken (Wk.le [] [] [] rfl (by (simp only [go_sem, hb2, hb5, hb11]) <;> (repeat' with_reducible apply And.intro) <;> first | assumption | rfl | omega | (unfold maxLen; omega)) (by (simp only [go_sem, hb2, hb5, hb11]) <;> (repeat' with_reducible apply And.intro) <;> first | assumption | rfl | omega | (unfold maxLen; omega))) (hk_lineallaw03_valid_k1 () h)

set_option maxRecDepth 100000 in
set_option maxHeartbeats 2000000 in
theorem hc_lineallaw03_begins (l : Int × (List (Int × Int))) (u : List Int) (w : List Int) {r : Bool} (h : lineallaw03_begins l u w = some r) : HC Try.prog 58 [] [.agg [.int .i64 l.1, .sl (.pair (.int .i64) (.int .i64)) l.2], .sl (.int .i64) u, .sl (.int .i64) w] [] (.bool r) := by
  unfold lineallaw03_begins at h
  refine HC.of_body tab_ok (res := [.tmp 6]) Try.func58 rfl (by kernel_rfl) rfl (nt := 21) rfl (by decide) (by simp) ?_
  refine AW.seq ?_
  refine AW.ops ?_
  refine AO.allF tab_ok (by decide) [(1, .sl (.int .i64) u), (2, .sl (.int .i64) w), (3, .bp 3 0)] [(3, .box 24 [.int .i64 l.1, .sl (.pair (.int .i64) (.int .i64)) l.2])] (by (simp only [go_sem]) <;> (repeat' with_reducible apply And.intro) <;> first | assumption | rfl | omega | (unfold maxLen; omega)) ?_
  refine athen_n ?_
  refine AW.seq ?_
  refine AW.ops ?_
  refine AO.segF tab_ok 3 (by decide) [(10, .agg [.int .i64 l.1, .sl (.pair (.int .i64) (.int .i64)) l.2]), (11, .sl (.int .i64) u), (12, .sl (.int .i64) w)] [] (by (simp only [go_sem]) <;> (repeat' with_reducible apply And.intro) <;> first | assumption | rfl | omega | (unfold maxLen; omega)) ?_
  obtain ⟨v0, hv1, h⟩ := Option.bind_eq_some_iff.1 h
  refine AO.call tab_ok (by decide) rfl rfl rfl (fun _ h => h) [] [] (hc_weave_Begins l u w hv1) rfl (by (simp only [go_sem]) <;> (repeat' with_reducible apply And.intro) <;> first | assumption | rfl | omega | (unfold maxLen; omega)) (by (simp only [go_sem]) <;> (repeat' with_reducible apply And.intro) <;> first | assumption | rfl | omega | (unfold maxLen; omega)) [(13, .tup [.bool v0.1, .int .i64 v0.2])] [] (by (simp only [go_sem]) <;> (repeat' with_reducible apply And.intro) <;> first | assumption | rfl | omega | (unfold maxLen; omega)) ?_
  refine AO.allF tab_ok (by decide) [(7, .bool v0.1), (8, .int .i64 v0.2)] [] (by (simp only [go_sem]) <;> (repeat' with_reducible apply And.intro) <;> first | assumption | rfl | omega | (unfold maxLen; omega)) ?_
  refine athen_n ?_
  refine AW.seq ?_
  refine AW.ops ?_
  refine AO.segF tab_ok 3 (by decide) [(7, .bool v0.1), (18, .bool (decide (v0.2 = 0)))] [] (by (simp only [go_sem]) <;> (repeat' with_reducible apply And.intro) <;> first | assumption | rfl | omega | (unfold maxLen; omega)) ?_
  rcases Bool.eq_false_or_eq_true (decide (v0.2 = 0)) with hb2 | hb2
  · rw [if_pos hb2] at h
    refine AO.weaken (s' := ⟨fr [(7, .bool v0.1), (18, .bool true)], hpGet [], gt⟩) (Wk.to (by (simp only [go_sem, hb2]) <;> (repeat' with_reducible apply And.intro) <;> first | assumption | rfl | omega | (unfold maxLen; omega))) ?_
    refine AO.allF tab_ok (by decide) [(6, .bool v0.1)] [] (by (simp only [go_sem, hb2]) <;> (repeat' with_reducible apply And.intro) <;> first | assumption | rfl | omega | (unfold maxLen; omega)) ?_
    refine athen_n ?_
    refine AW.ret ?_
    obtain rfl := Option.some.inj h
    exact ⟨rfl, [], [], [], rfl, (by (simp only [go_sem, hb2]) <;> (repeat' with_reducible apply And.intro) <;> first | assumption | rfl | omega | (unfold maxLen; omega))⟩
  · rw [if_neg (Bool.eq_false_iff.1 hb2)] at h
    refine AO.weaken (s' := ⟨fr [(7, .bool v0.1), (18, .bool false)], hpGet [], gt⟩) (Wk.to (by (simp only [go_sem, hb2]) <;> (repeat' with_reducible apply And.intro) <;> first | assumption | rfl | omega | (unfold maxLen; omega))) ?_
    refine AO.allF tab_ok (by decide) [(6, .bool false)] [] (by (simp only [go_sem, hb2]) <;> (repeat' with_reducible apply And.intro) <;> first | assumption | rfl | omega | (unfold maxLen; omega)) ?_
    refine athen_n ?_
    refine AW.ret ?_
    obtain rfl := Option.some.inj h
    exact ⟨rfl, [], [], [], rfl, (by (simp only [go_sem, hb2]) <;> (repeat' with_reducible apply And.intro) <;> first | assumption | rfl | omega | (unfold maxLen; omega))⟩

end Go.Proofs.Ytcijihofjcfpoab
