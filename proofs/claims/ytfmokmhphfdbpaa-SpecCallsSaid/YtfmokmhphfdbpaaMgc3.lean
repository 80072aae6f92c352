/-
  Made by wip/tool/dc.py out of the print of the program: contracts.
-/
import Derived.Test.YtfmokmhphfdbpaaQp
import Derived.Test.YtfmokmhphfdbpaaShs
import Derived.Test.YtfmokmhphfdbpaaMgc1
import Derived.Test.YtfmokmhphfdbpaaMgc2
namespace Go.Proofs.Ytfmokmhphfdbpaa
open Go.RowKit

set_option linter.unusedSimpArgs false
set_option linter.unusedVariables false
set_option linter.constructorNameAsVariable false

set_option maxRecDepth 100000
set_option maxHeartbeats 2000000

theorem hc_spec_machine_reached (m : Int × Int × (List (List Int)) × (List (List Int))) {r : (List Int)} (h : spec_machine_reached m = some r) : HC Try.prog 73 [] [.agg [.int .i64 m.1, .int .i64 m.2.1, .sl (.sl (.int .i64)) m.2.2.1, .sl (.sl (.int .i64)) m.2.2.2]] [(2000, .arr 3 (.int .i64) r)] (.own 2000) := by
 unfold spec_machine_reached at h
 refine zH Try.func73 [.tmp 2] 16 ?_
 refine zo ?_
 refine zB [(1, .bp 1 0)] [(1, .box 60 [.int .i64 m.1, .int .i64 m.2.1, .sl (.sl (.int .i64)) m.2.2.1, .sl (.sl (.int .i64)) m.2.2.2])] ?_
 refine zo ?_
 refine zB [(1, .bp 1 0), (3, .bp 3 0)] [(1, .box 60 [.int .i64 m.1, .int .i64 m.2.1, .sl (.sl (.int .i64)) m.2.2.1, .sl (.sl (.int .i64)) m.2.2.2]), (3, .box 25 [.cv (.slice none 0 0)])] ?_
 refine AW.have1 (fun b1 : (List Int) => spec_machine_reached_k1 b1 = some r) (fun b1 => ⟨fr [(3, .bp 3 0)], hpGet [(3, .box 25 [.own 12]), (12, .arr 3 (.int .i64) b1)], gt⟩) (fun b1 h => ?_) (fun hk_spec_machine_reached_k1 => ?_)
 ·unfold spec_machine_reached_k1 at h
  refine zo ?_
  refine zS 1 [(3, .bp 3 0), (13, .own 12)] [(3, .box 25 [.own 12]), (12, .arr 3 (.int .i64) b1)] ?_
  obtain ⟨v0_2, hv1, h⟩ := Option.bind_eq_some_iff.1 h
  refine zC [] [(1000, 12)] (hc_slices_Sort b1 hv1) [(3, .bp 3 0)] [(3, .box 25 [.own 12]), (12, .arr 3 (.int .i64) v0_2)] ?_
  refine zB [(3, .bp 3 0)] [(3, .box 25 [.own 12]), (12, .arr 3 (.int .i64) v0_2)] ?_
  refine zo ?_
  refine zB [(2, .own 12)] [(12, .arr 3 (.int .i64) v0_2)] ?_
  refine AW.ret ?_
  obtain rfl := Option.some.inj h
  exact zR [] [] [(2000, 12)]
 ·refine AW.seq ?_
  refine zo ?_
  refine zS 1 [(3, .bp 3 0), (5, .agg [.int .i64 m.1, .int .i64 m.2.1, .sl (.sl (.int .i64)) m.2.2.1, .sl (.sl (.int .i64)) m.2.2.2])] [(3, .box 25 [.cv (.slice none 0 0)])] ?_
  obtain ⟨v0, hv2, h⟩ := Option.bind_eq_some_iff.1 h
  refine zC [] [] (hc_spec_machine_ways m hv2) [(3, .bp 3 0), (6, .fn (.func 98) [] [.bp 16000 0])] [(3, .box 25 [.cv (.slice none 0 0)]), (16000, .box 60 [.int .i64 m.1, .int .i64 m.2.1, .sl (.sl (.int .i64)) m.2.2.1, .sl (.sl (.int .i64)) m.2.2.2])] ?_
  refine zB [(3, .bp 3 0), (6, .fn (.func 98) [] [.bp 16000 0])] [(3, .box 25 [.cv (.slice none 0 0)]), (16000, .box 60 [.int .i64 m.1, .int .i64 m.2.1, .sl (.sl (.int .i64)) m.2.2.1, .sl (.sl (.int .i64)) m.2.2.2])] ?_
  refine AW.block ?_
  obtain ⟨x3, hx4, h⟩ := Option.bind_eq_some_iff.1 h
  refine AW.weaken (s' := ⟨fr [(3, .bp 3 0), (6, .fn (.func 98) [] [.bp 16000 0])], hpGet ([(16000, .box 60 [.int .i64 m.1, .int .i64 m.2.1, .sl (.sl (.int .i64)) m.2.2.1, .sl (.sl (.int .i64)) m.2.2.2])] ++ [(3, .box 25 [.own 12]), (12, .arr 3 (.int .i64) [])]), gt⟩) (zL [] [12] []) ?_
  refine AW.rangeF (R := Empty) (l0 := [(3, .bp 3 0)]) (hI := [(16000, .box 60 [.int .i64 m.1, .int .i64 m.2.1, .sl (.sl (.int .i64)) m.2.2.1, .sl (.sl (.int .i64)) m.2.2.2])]) (h0 := fun (st1 : (List Int)) => [(3, .box 25 [.own 12]), (12, .arr 3 (.int .i64) st1)]) (gg := fun (st1 : (List Int)) => gt) (hx0 := (fun (r : Empty) => r.elim)) (gx := (fun (r : Empty) => r.elim)) (ex := (fun (r : Empty) => r.elim)) [] [(16000, 1000)] [(1000, 16000)] [(3, 1900)] [(1900, 3)] (by decide) rfl (by first | exact (ic_spec_machine_ways_1 m (spec_machine_reached_y1) [] hx4) | simpa only [go_sem] using (ic_spec_machine_ways_1 m (spec_machine_reached_y1) [] hx4)) (by (simp only [go_sem]) <;> (with_reducible and_intros) <;> first | assumption | rfl | omega | (unfold maxLen; omega)) rfl rfl rfl (fun _ => rfl) rfl (fun r => r.elim) rfl (fun r => r.elim) (fun r => r.elim) (fun _ => rfl) (fun _ => rfl) rfl (fun _ _ => by first | rfl | (exact (hΓ _).trans (hΓ _).symm) | (exact (hΓx _).trans (hΓ _).symm)) (fun _ r => r.elim) ?_ ?_
  ·intro lpy1 y1 st1 x5 h
   unfold spec_machine_reached_y1 at h
   refine zV [(3, .bp 1900 0), (7, .int .i64 y1.1), (8, .sl (.int .i64) y1.2)] [(12, .arr 3 (.int .i64) st1), (1900, .box 25 [.own 12])] gt ?_
   refine AW.ops ?_
   refine zA [(3, .bp 1900 0), (4, .int .i64 y1.1)] [(12, .arr 3 (.int .i64) st1), (1900, .box 25 [.own 12])] ?_
   refine And.intro rfl ?_
   refine AW.block ?_
   refine AW.ops ?_
   obtain ⟨c6, h⟩ := ck_some.1 h
   refine zA [(3, .bp 1900 0)] [(12, .arr 3 (.int .i64) (st1 ++ [y1.1])), (1900, .box 25 [.own 12])] ?_
   refine ablock_n ?_
   obtain rfl := Option.some.inj h
   exact rpost_next rfl [] [] [] rfl (by (simp only [go_sem]) <;> (with_reducible and_intros) <;> first | assumption | rfl | omega | (unfold maxLen; omega))
  ·cases x3 with
   | inl st1_2 =>
    try simp only at h
    refine ablock_n ?_
    refine athen_n ?_
    exact AW.weaken (zL [] [] []) (hk_spec_machine_reached_k1 _ h)
   | inr rx =>
    exact rx.elim

theorem hc_spec_machine_commute (m : Int × Int × (List (List Int)) × (List (List Int))) (state : Int) (a : Int) (b : Int) {r : Bool} (h : spec_machine_commute m state a b = some r) : HC Try.prog 85 [] [.agg [.int .i64 m.1, .int .i64 m.2.1, .sl (.sl (.int .i64)) m.2.2.1, .sl (.sl (.int .i64)) m.2.2.2], .int .i64 state, .int .i64 a, .int .i64 b] [] (.bool r) := by
 unfold spec_machine_commute at h
 refine zH Try.func85 [.tmp 8] 53 ?_
 refine zo ?_
 refine zB [(1, .int .i64 state), (2, .int .i64 a), (3, .int .i64 b), (4, .bp 4 0)] [(4, .box 60 [.int .i64 m.1, .int .i64 m.2.1, .sl (.sl (.int .i64)) m.2.2.1, .sl (.sl (.int .i64)) m.2.2.2])] ?_
 refine zo ?_
 refine zS 5 [(1, .int .i64 state), (2, .int .i64 a), (3, .int .i64 b), (4, .bp 4 0), (14, .agg [.int .i64 m.1, .int .i64 m.2.1, .sl (.sl (.int .i64)) m.2.2.1, .sl (.sl (.int .i64)) m.2.2.2]), (15, .int .i64 state), (18, .own 18)] [(4, .box 60 [.int .i64 m.1, .int .i64 m.2.1, .sl (.sl (.int .i64)) m.2.2.1, .sl (.sl (.int .i64)) m.2.2.2]), (18, .arr 3 (.int .i64) [a, b])] ?_
 obtain ⟨v0, hv1, h⟩ := Option.bind_eq_some_iff.1 h
 refine zC [18] [] (hc_spec_machine_run m state [a, b] hv1) [(1, .int .i64 state), (2, .int .i64 a), (3, .int .i64 b), (4, .bp 4 0), (19, .tup [.own 29000, .int .i64 v0.2])] [(4, .box 60 [.int .i64 m.1, .int .i64 m.2.1, .sl (.sl (.int .i64)) m.2.2.1, .sl (.sl (.int .i64)) m.2.2.2]), (29000, .arr 3 (.int .i64) v0.1)] ?_
 refine zB [(1, .int .i64 state), (2, .int .i64 a), (3, .int .i64 b), (4, .bp 4 0), (9, .own 29000), (10, .int .i64 v0.2)] [(4, .box 60 [.int .i64 m.1, .int .i64 m.2.1, .sl (.sl (.int .i64)) m.2.2.1, .sl (.sl (.int .i64)) m.2.2.2]), (29000, .arr 3 (.int .i64) v0.1)] ?_
 refine zo ?_
 refine zS 5 [(4, .bp 4 0), (9, .own 29000), (10, .int .i64 v0.2), (23, .agg [.int .i64 m.1, .int .i64 m.2.1, .sl (.sl (.int .i64)) m.2.2.1, .sl (.sl (.int .i64)) m.2.2.2]), (24, .int .i64 state), (27, .own 27)] [(4, .box 60 [.int .i64 m.1, .int .i64 m.2.1, .sl (.sl (.int .i64)) m.2.2.1, .sl (.sl (.int .i64)) m.2.2.2]), (27, .arr 3 (.int .i64) [b, a]), (29000, .arr 3 (.int .i64) v0.1)] ?_
 obtain ⟨v0_2, hv2, h⟩ := Option.bind_eq_some_iff.1 h
 refine zC [27] [] (hc_spec_machine_run m state [b, a] hv2) [(4, .bp 4 0), (9, .own 29000), (10, .int .i64 v0.2), (28, .tup [.own 38000, .int .i64 v0_2.2])] [(4, .box 60 [.int .i64 m.1, .int .i64 m.2.1, .sl (.sl (.int .i64)) m.2.2.1, .sl (.sl (.int .i64)) m.2.2.2]), (29000, .arr 3 (.int .i64) v0.1), (38000, .arr 3 (.int .i64) v0_2.1)] ?_
 refine zB [(4, .bp 4 0), (9, .own 29000), (10, .int .i64 v0.2), (11, .own 38000), (12, .int .i64 v0_2.2)] [(4, .box 60 [.int .i64 m.1, .int .i64 m.2.1, .sl (.sl (.int .i64)) m.2.2.1, .sl (.sl (.int .i64)) m.2.2.2]), (29000, .arr 3 (.int .i64) v0.1), (38000, .arr 3 (.int .i64) v0_2.1)] ?_
 refine AW.seq ?_
 refine AW.draw tab_ok mixed_ok [] [] (by decide) (by kernel_rfl) ?_
 obtain ⟨c4, h⟩ := ck_some.1 h
 obtain ⟨c5, h⟩ := ck_some.1 h
 refine adops_cut 6 (fun K' hK3 => ?_)
 try dsimp only [List.drop_succ_cons, List.drop_zero, List.take_succ_cons, List.take_zero]
 simp only [go_sem]
 repeat with_reducible refine zN ?_
 refine hK3 _ ?_
 refine adops_cut 2 (fun K' hK6 => ?_)
 try dsimp only [List.drop_succ_cons, List.drop_zero, List.take_succ_cons, List.take_zero]
 simp only [go_sem]
 repeat with_reducible refine zN ?_
 refine hK6 _ ?_
 rcases zI h with ⟨hb7, h⟩ | ⟨hb7, h⟩
 ·simp only [hb7]
  obtain ⟨c9, h⟩ := ck_some.1 h
  obtain ⟨c10, h⟩ := ck_some.1 h
  refine adops_cut 6 (fun K' hK8 => ?_)
  try dsimp only [List.drop_succ_cons, List.drop_zero, List.take_succ_cons, List.take_zero]
  simp only [go_sem, hb7]
  repeat with_reducible refine zN ?_
  refine hK8 _ ?_
  refine adops_cut 3 (fun K' hK11 => ?_)
  try dsimp only [List.drop_succ_cons, List.drop_zero, List.take_succ_cons, List.take_zero]
  simp only [go_sem, hb7]
  repeat with_reducible refine zN ?_
  refine hK11 _ ?_
  rcases zI h with ⟨hb12, h⟩ | ⟨hb12, h⟩
  ·simp only [hb12]
   refine adops_cut 3 (fun K' hK13 => ?_)
   try dsimp only [List.drop_succ_cons, List.drop_zero, List.take_succ_cons, List.take_zero]
   simp only [go_sem, hb7, hb12]
   repeat with_reducible refine zN ?_
   refine hK13 _ ?_
   obtain ⟨v0_3, hv14, h⟩ := Option.bind_eq_some_iff.1 h
   refine adops.call (by first | trivial | rfl) rfl rfl rfl (fun _ h => ⟨fun _ => h, fun hn => absurd rfl hn⟩) [] [] (hc_spec_machine_same m v0.2 v0_2.2 hv14) rfl (by (simp only [go_sem, hb7, hb12]) <;> (with_reducible and_intros) <;> first | assumption | rfl | omega | (unfold maxLen; omega)) (by (simp only [go_sem, hb7, hb12]) <;> (with_reducible and_intros) <;> first | assumption | rfl | omega | (unfold maxLen; omega)) rfl ?_
   refine adops_cut 2 (fun K' hK15 => ?_)
   try dsimp only [List.drop_succ_cons, List.drop_zero, List.take_succ_cons, List.take_zero]
   simp only [go_sem, hb7, hb12]
   repeat with_reducible refine zN ?_
   refine hK15 _ ?_
   refine adops_nil ?_
   refine athen_n ?_
   refine zV [(8, .bool v0_3)] [] gt ?_
   refine AW.ret ?_
   obtain rfl := Option.some.inj h
   exact zR [] [] []
  ·simp only [hb12]
   refine adops_cut 4 (fun K' hK16 => ?_)
   try dsimp only [List.drop_succ_cons, List.drop_zero, List.take_succ_cons, List.take_zero]
   simp only [go_sem, hb7, hb12]
   repeat with_reducible refine zN ?_
   refine hK16 _ ?_
   refine adops_cut 2 (fun K' hK17 => ?_)
   try dsimp only [List.drop_succ_cons, List.drop_zero, List.take_succ_cons, List.take_zero]
   simp only [go_sem, hb7, hb12]
   repeat with_reducible refine zN ?_
   refine hK17 _ ?_
   refine adops_nil ?_
   refine athen_n ?_
   refine zV [(8, .bool false)] [] gt ?_
   refine AW.ret ?_
   obtain rfl := Option.some.inj h
   exact zR [] [] []
 ·simp only [hb7]
  refine adops_cut 4 (fun K' hK18 => ?_)
  try dsimp only [List.drop_succ_cons, List.drop_zero, List.take_succ_cons, List.take_zero]
  simp only [go_sem, hb7]
  repeat with_reducible refine zN ?_
  refine hK18 _ ?_
  refine adops_cut 6 (fun K' hK19 => ?_)
  try dsimp only [List.drop_succ_cons, List.drop_zero, List.take_succ_cons, List.take_zero]
  simp only [go_sem, hb7]
  repeat with_reducible refine zN ?_
  refine hK19 _ ?_
  refine adops_cut 5 (fun K' hK20 => ?_)
  try dsimp only [List.drop_succ_cons, List.drop_zero, List.take_succ_cons, List.take_zero]
  simp only [go_sem, hb7]
  repeat with_reducible refine zN ?_
  refine hK20 _ ?_
  refine adops_nil ?_
  refine athen_n ?_
  refine zV [(8, .bool false)] [] gt ?_
  refine AW.ret ?_
  obtain rfl := Option.some.inj h
  exact zR [] [] []

theorem hc_spec_told (s : Int × Int × (List (List Int)) × (List (List Int))) (state : Int) (a : Int) (b : Int) {r : Bool × Int} (h : spec_told s state a b = some r) : HC Try.prog 84 [] [.agg [.int .i64 s.1, .int .i64 s.2.1, .sl (.sl (.int .i64)) s.2.2.1, .sl (.sl (.int .i64)) s.2.2.2], .fn (.func 85) [] [], .int .i64 state, .int .i64 a, .int .i64 b] [] (.tup [.bool r.1, .int .i64 r.2]) := by
 unfold spec_told at h
 refine zH Try.func84 [.tmp 10, .tmp 11] 37 ?_
 refine zo ?_
 refine zB [(1, .fn (.func 85) [] []), (2, .int .i64 state), (3, .int .i64 a), (4, .int .i64 b), (5, .bp 5 0)] [(5, .box 24 [.int .i64 s.1, .int .i64 s.2.1, .sl (.sl (.int .i64)) s.2.2.1, .sl (.sl (.int .i64)) s.2.2.2])] ?_
 refine zo ?_
 refine zS 3 [(1, .fn (.func 85) [] []), (2, .int .i64 state), (3, .int .i64 a), (4, .int .i64 b), (15, .agg [.int .i64 s.1, .int .i64 s.2.1, .sl (.sl (.int .i64)) s.2.2.1, .sl (.sl (.int .i64)) s.2.2.2]), (17, .own 17)] [(17, .arr 3 (.int .i64) [state])] ?_
 obtain ⟨v0, hv1, h⟩ := Option.bind_eq_some_iff.1 h
 refine zC [17] [] (hc_spec_checked s [state] hv1) [(1, .fn (.func 85) [] []), (2, .int .i64 state), (3, .int .i64 a), (4, .int .i64 b), (18, .tup [.agg [.int .i64 v0.1, .int .i64 v0.2.1, .sl (.sl (.int .i64)) v0.2.2.1, .sl (.sl (.int .i64)) v0.2.2.2.1], .int .i64 v0.2.2.2.2])] [] ?_
 refine zB [(1, .fn (.func 85) [] []), (2, .int .i64 state), (3, .int .i64 a), (4, .int .i64 b), (12, .bp 12 0), (13, .int .i64 v0.2.2.2.2)] [(12, .box 60 [.int .i64 v0.1, .int .i64 v0.2.1, .sl (.sl (.int .i64)) v0.2.2.1, .sl (.sl (.int .i64)) v0.2.2.2.1])] ?_
 refine AW.seq ?_
 refine zo ?_
 refine zB [(1, .fn (.func 85) [] []), (2, .int .i64 state), (3, .int .i64 a), (4, .int .i64 b), (12, .bp 12 0), (13, .int .i64 v0.2.2.2.2), (22, .bool (!(decide (v0.2.2.2.2 = 0))))] [(12, .box 60 [.int .i64 v0.1, .int .i64 v0.2.1, .sl (.sl (.int .i64)) v0.2.2.1, .sl (.sl (.int .i64)) v0.2.2.2.1])] ?_
 refine zQ h (fun hb2 h => ?_) (fun hb2 h => ?_)
 ·refine zo ?_
  refine zB [(10, .bool false), (11, .int .i64 v0.2.2.2.2)] [] ?_
  refine zr ?_
  obtain rfl := Option.some.inj h
  exact zR [] [] []
 ·refine zk ?_
  refine AW.seq ?_
  refine zo ?_
  refine zS 5 [(1, .fn (.func 85) [] []), (2, .int .i64 state), (3, .int .i64 a), (4, .int .i64 b), (12, .bp 12 0), (25, .fn (.func 90) [.agg [.int .i64 v0.1, .int .i64 v0.2.1, .sl (.sl (.int .i64)) v0.2.2.1, .sl (.sl (.int .i64)) v0.2.2.2.1]] []), (28, .own 28)] [(12, .box 60 [.int .i64 v0.1, .int .i64 v0.2.1, .sl (.sl (.int .i64)) v0.2.2.1, .sl (.sl (.int .i64)) v0.2.2.2.1]), (28, .arr 3 (.int .i64) [a, b])] ?_
  obtain ⟨v0_2, hv3, h⟩ := Option.bind_eq_some_iff.1 h
  refine zC [28] [] (hc_spec_all_3 (v0.1, v0.2.1, v0.2.2.1, v0.2.2.2.1) [a, b] hv3) [(1, .fn (.func 85) [] []), (2, .int .i64 state), (3, .int .i64 a), (4, .int .i64 b), (12, .bp 12 0), (29, .bool v0_2)] [(12, .box 60 [.int .i64 v0.1, .int .i64 v0.2.1, .sl (.sl (.int .i64)) v0.2.2.1, .sl (.sl (.int .i64)) v0.2.2.2.1])] ?_
  refine zB [(1, .fn (.func 85) [] []), (2, .int .i64 state), (3, .int .i64 a), (4, .int .i64 b), (12, .bp 12 0), (30, .bool (!v0_2))] [(12, .box 60 [.int .i64 v0.1, .int .i64 v0.2.1, .sl (.sl (.int .i64)) v0.2.2.1, .sl (.sl (.int .i64)) v0.2.2.2.1])] ?_
  refine zQ h (fun hb4 h => ?_) (fun hb4 h => ?_)
  ·refine zo ?_
   refine zB [(10, .bool false), (11, .int .i64 2)] [] ?_
   refine zr ?_
   obtain rfl := Option.some.inj h
   exact zR [] [] []
  ·refine zk ?_
   refine zo ?_
   refine zS 5 [(31, .fn (.func 85) [] []), (32, .agg [.int .i64 v0.1, .int .i64 v0.2.1, .sl (.sl (.int .i64)) v0.2.2.1, .sl (.sl (.int .i64)) v0.2.2.2.1]), (33, .int .i64 state), (34, .int .i64 a), (35, .int .i64 b)] [] ?_
   obtain ⟨v0_3, hv5, h⟩ := Option.bind_eq_some_iff.1 h
   refine zC [] [] (hc_spec_machine_commute (v0.1, v0.2.1, v0.2.2.1, v0.2.2.2.1) state a b hv5) [(36, .bool v0_3)] [] ?_
   refine zB [(10, .bool v0_3), (11, .int .i64 0)] [] ?_
   refine AW.ret ?_
   obtain rfl := Option.some.inj h
   exact zR [] [] []

theorem hc_spec_Commute (s : Int × Int × (List (List Int)) × (List (List Int))) (state : Int) (a : Int) (b : Int) {r : Bool × Int} (h : spec_Commute s state a b = some r) : HC Try.prog 44 [] [.agg [.int .i64 s.1, .int .i64 s.2.1, .sl (.sl (.int .i64)) s.2.2.1, .sl (.sl (.int .i64)) s.2.2.2], .int .i64 state, .int .i64 a, .int .i64 b] [] (.tup [.bool r.1, .int .i64 r.2]) := by
 unfold spec_Commute at h
 refine zH Try.func44 [.tmp 8, .tmp 9] 17 ?_
 refine zo ?_
 refine zB [(1, .int .i64 state), (2, .int .i64 a), (3, .int .i64 b), (4, .bp 4 0)] [(4, .box 24 [.int .i64 s.1, .int .i64 s.2.1, .sl (.sl (.int .i64)) s.2.2.1, .sl (.sl (.int .i64)) s.2.2.2])] ?_
 refine zo ?_
 refine zS 4 [(10, .agg [.int .i64 s.1, .int .i64 s.2.1, .sl (.sl (.int .i64)) s.2.2.1, .sl (.sl (.int .i64)) s.2.2.2]), (11, .int .i64 state), (12, .int .i64 a), (13, .int .i64 b)] [] ?_
 obtain ⟨v0, hv1, h⟩ := Option.bind_eq_some_iff.1 h
 refine zC [] [] (hc_spec_told s state a b hv1) [(14, .tup [.bool v0.1, .int .i64 v0.2])] [] ?_
 refine zB [(8, .bool v0.1), (9, .int .i64 v0.2)] [] ?_
 refine AW.ret ?_
 obtain rfl := Option.some.inj h
 exact zR [] [] []

theorem hc_spec_Reads (s : Int × Int × (List (List Int)) × (List (List Int))) (op0 : Int) {r : Bool × Int} (h : spec_Reads s op0 = some r) : HC Try.prog 48 [] [.agg [.int .i64 s.1, .int .i64 s.2.1, .sl (.sl (.int .i64)) s.2.2.1, .sl (.sl (.int .i64)) s.2.2.2], .int .i64 op0] [] (.tup [.bool r.1, .int .i64 r.2]) := by
 unfold spec_Reads at h
 refine zH Try.func48 [.cell 4 4, .cell 5 28] 37 ?_
 refine zo ?_
 refine zB [(2, .bp 2 0), (3, .bp 3 0), (4, .bp 4 0), (5, .bp 5 0)] [(2, .box 24 [.int .i64 s.1, .int .i64 s.2.1, .sl (.sl (.int .i64)) s.2.2.1, .sl (.sl (.int .i64)) s.2.2.2]), (3, .box 3 [.int .i64 op0]), (4, .box 4 [.bool false]), (5, .box 28 [.int .i64 0])] ?_
 refine zo ?_
 refine zS 1 [(3, .bp 3 0), (4, .bp 4 0), (5, .bp 5 0), (10, .agg [.int .i64 s.1, .int .i64 s.2.1, .sl (.sl (.int .i64)) s.2.2.1, .sl (.sl (.int .i64)) s.2.2.2])] [(3, .box 3 [.int .i64 op0]), (4, .box 4 [.bool false]), (5, .box 28 [.int .i64 0])] ?_
 obtain ⟨v0, hv1, h⟩ := Option.bind_eq_some_iff.1 h
 refine zC [] [] (hc_spec_checked s [] hv1) [(3, .bp 3 0), (4, .bp 4 0), (5, .bp 5 0), (11, .tup [.agg [.int .i64 v0.1, .int .i64 v0.2.1, .sl (.sl (.int .i64)) v0.2.2.1, .sl (.sl (.int .i64)) v0.2.2.2.1], .int .i64 v0.2.2.2.2])] [(3, .box 3 [.int .i64 op0]), (4, .box 4 [.bool false]), (5, .box 28 [.int .i64 0])] ?_
 refine zB [(3, .bp 3 0), (4, .bp 4 0), (5, .bp 5 0), (6, .bp 6 0), (7, .int .i64 v0.2.2.2.2)] [(3, .box 3 [.int .i64 op0]), (4, .box 4 [.bool false]), (5, .box 28 [.int .i64 0]), (6, .box 60 [.int .i64 v0.1, .int .i64 v0.2.1, .sl (.sl (.int .i64)) v0.2.2.1, .sl (.sl (.int .i64)) v0.2.2.2.1])] ?_
 refine AW.seq ?_
 refine zo ?_
 refine zB [(3, .bp 3 0), (4, .bp 4 0), (5, .bp 5 0), (6, .bp 6 0), (7, .int .i64 v0.2.2.2.2), (15, .bool (!(decide (v0.2.2.2.2 = 0))))] [(3, .box 3 [.int .i64 op0]), (4, .box 4 [.bool false]), (5, .box 28 [.int .i64 0]), (6, .box 60 [.int .i64 v0.1, .int .i64 v0.2.1, .sl (.sl (.int .i64)) v0.2.2.1, .sl (.sl (.int .i64)) v0.2.2.2.1])] ?_
 refine zQ h (fun hb2 h => ?_) (fun hb2 h => ?_)
 ·refine zo ?_
  refine zB [(4, .bp 4 0), (5, .bp 5 0)] [(4, .box 4 [.bool false]), (5, .box 28 [.int .i64 v0.2.2.2.2])] ?_
  refine zr ?_
  obtain rfl := Option.some.inj h
  exact zR [] [] []
 ·refine zk ?_
  refine AW.seq ?_
  refine zo ?_
  refine zS 2 [(3, .bp 3 0), (4, .bp 4 0), (5, .bp 5 0), (6, .bp 6 0), (17, .agg [.int .i64 v0.1, .int .i64 v0.2.1, .sl (.sl (.int .i64)) v0.2.2.1, .sl (.sl (.int .i64)) v0.2.2.2.1]), (18, .int .i64 op0)] [(3, .box 3 [.int .i64 op0]), (4, .box 4 [.bool false]), (5, .box 28 [.int .i64 0]), (6, .box 60 [.int .i64 v0.1, .int .i64 v0.2.1, .sl (.sl (.int .i64)) v0.2.2.1, .sl (.sl (.int .i64)) v0.2.2.2.1])] ?_
  obtain ⟨v0_2, hv3, h⟩ := Option.bind_eq_some_iff.1 h
  refine zC [] [] (hc_spec_machine_isCall (v0.1, v0.2.1, v0.2.2.1, v0.2.2.2.1) op0 hv3) [(3, .bp 3 0), (4, .bp 4 0), (5, .bp 5 0), (6, .bp 6 0), (19, .bool v0_2)] [(3, .box 3 [.int .i64 op0]), (4, .box 4 [.bool false]), (5, .box 28 [.int .i64 0]), (6, .box 60 [.int .i64 v0.1, .int .i64 v0.2.1, .sl (.sl (.int .i64)) v0.2.2.1, .sl (.sl (.int .i64)) v0.2.2.2.1])] ?_
  refine zB [(3, .bp 3 0), (4, .bp 4 0), (5, .bp 5 0), (6, .bp 6 0), (20, .bool (!v0_2))] [(3, .box 3 [.int .i64 op0]), (4, .box 4 [.bool false]), (5, .box 28 [.int .i64 0]), (6, .box 60 [.int .i64 v0.1, .int .i64 v0.2.1, .sl (.sl (.int .i64)) v0.2.2.1, .sl (.sl (.int .i64)) v0.2.2.2.1])] ?_
  refine zQ h (fun hb4 h => ?_) (fun hb4 h => ?_)
  ·refine zo ?_
   refine zB [(4, .bp 4 0), (5, .bp 5 0)] [(4, .box 4 [.bool false]), (5, .box 28 [.int .i64 2])] ?_
   refine zr ?_
   obtain rfl := Option.some.inj h
   exact zR [] [] []
  ·refine zk ?_
   refine AW.have1 (fun _ : Unit => spec_Reads_k1 = some r) (fun _ => ⟨fr [(4, .bp 4 0), (5, .bp 5 0)], hpGet [(4, .box 4 [.bool false]), (5, .box 28 [.int .i64 0])], gt⟩) (fun _ h => ?_) (fun hk_spec_Reads_k1 => ?_)
   ·unfold spec_Reads_k1 at h
    refine zo ?_
    refine zB [(4, .bp 4 0), (5, .bp 5 0)] [(4, .box 4 [.bool true]), (5, .box 28 [.int .i64 0])] ?_
    refine AW.ret ?_
    obtain rfl := Option.some.inj h
    exact zR [] [] []
   ·refine AW.seq ?_
    refine zo ?_
    refine zS 1 [(3, .bp 3 0), (4, .bp 4 0), (5, .bp 5 0), (6, .bp 6 0), (21, .agg [.int .i64 v0.1, .int .i64 v0.2.1, .sl (.sl (.int .i64)) v0.2.2.1, .sl (.sl (.int .i64)) v0.2.2.2.1])] [(3, .box 3 [.int .i64 op0]), (4, .box 4 [.bool false]), (5, .box 28 [.int .i64 0]), (6, .box 60 [.int .i64 v0.1, .int .i64 v0.2.1, .sl (.sl (.int .i64)) v0.2.2.1, .sl (.sl (.int .i64)) v0.2.2.2.1])] ?_
    obtain ⟨v0_3, hv5, h⟩ := Option.bind_eq_some_iff.1 h
    refine zC [] [] (hc_spec_machine_ways (v0.1, v0.2.1, v0.2.2.1, v0.2.2.2.1) hv5) [(3, .bp 3 0), (4, .bp 4 0), (5, .bp 5 0), (6, .bp 6 0), (22, .fn (.func 98) [] [.bp 32000 0])] [(3, .box 3 [.int .i64 op0]), (4, .box 4 [.bool false]), (5, .box 28 [.int .i64 0]), (6, .box 60 [.int .i64 v0.1, .int .i64 v0.2.1, .sl (.sl (.int .i64)) v0.2.2.1, .sl (.sl (.int .i64)) v0.2.2.2.1]), (32000, .box 60 [.int .i64 v0.1, .int .i64 v0.2.1, .sl (.sl (.int .i64)) v0.2.2.1, .sl (.sl (.int .i64)) v0.2.2.2.1])] ?_
    refine zB [(3, .bp 3 0), (4, .bp 4 0), (5, .bp 5 0), (6, .bp 6 0), (22, .fn (.func 98) [] [.bp 32000 0])] [(3, .box 3 [.int .i64 op0]), (4, .box 4 [.bool false]), (5, .box 28 [.int .i64 0]), (6, .box 60 [.int .i64 v0.1, .int .i64 v0.2.1, .sl (.sl (.int .i64)) v0.2.2.1, .sl (.sl (.int .i64)) v0.2.2.2.1]), (32000, .box 60 [.int .i64 v0.1, .int .i64 v0.2.1, .sl (.sl (.int .i64)) v0.2.2.1, .sl (.sl (.int .i64)) v0.2.2.2.1])] ?_
    refine AW.block ?_
    obtain ⟨x6, hx7, h⟩ := Option.bind_eq_some_iff.1 h
    refine AW.weaken (s' := ⟨fr [(3, .bp 3 0), (4, .bp 4 0), (5, .bp 5 0), (6, .bp 6 0), (22, .fn (.func 98) [] [.bp 32000 0])], hpGet ([(32000, .box 60 [.int .i64 v0.1, .int .i64 v0.2.1, .sl (.sl (.int .i64)) v0.2.2.1, .sl (.sl (.int .i64)) v0.2.2.2.1])] ++ [(3, .box 3 [.int .i64 op0]), (4, .box 4 [.bool false]), (5, .box 28 [.int .i64 0]), (6, .box 60 [.int .i64 v0.1, .int .i64 v0.2.1, .sl (.sl (.int .i64)) v0.2.2.1, .sl (.sl (.int .i64)) v0.2.2.2.1])]), gt⟩) (zL [] [] []) ?_
    refine AW.rangeF (R := Unit) (l0 := [(3, .bp 3 0), (4, .bp 4 0), (5, .bp 5 0), (6, .bp 6 0)]) (hI := [(32000, .box 60 [.int .i64 v0.1, .int .i64 v0.2.1, .sl (.sl (.int .i64)) v0.2.2.1, .sl (.sl (.int .i64)) v0.2.2.2.1])]) (h0 := fun (st1 : Unit) => [(3, .box 3 [.int .i64 op0]), (4, .box 4 [.bool false]), (5, .box 28 [.int .i64 0]), (6, .box 60 [.int .i64 v0.1, .int .i64 v0.2.1, .sl (.sl (.int .i64)) v0.2.2.1, .sl (.sl (.int .i64)) v0.2.2.2.1])]) (gg := fun (st1 : Unit) => gt) (hx0 := (fun (_ : Unit) => [(3, .box 3 [.int .i64 op0]), (4, .box 4 [.bool false]), (5, .box 28 [.int .i64 0]), (6, .box 60 [.int .i64 v0.1, .int .i64 v0.2.1, .sl (.sl (.int .i64)) v0.2.2.1, .sl (.sl (.int .i64)) v0.2.2.2.1])])) (gx := (fun (_ : Unit) => gt)) (ex := (fun (_ : Unit) => Exit.ret)) () [(32000, 1000)] [(1000, 32000)] [(3, 1900), (4, 1901), (5, 1902), (6, 1903)] [(1900, 3), (1901, 4), (1902, 5), (1903, 6)] (by decide) rfl (by first | exact (ic_spec_machine_ways_1 (v0.1, v0.2.1, v0.2.2.1, v0.2.2.2.1) (spec_Reads_y1 op0 v0) () hx7) | simpa only [go_sem] using (ic_spec_machine_ways_1 (v0.1, v0.2.1, v0.2.2.1, v0.2.2.2.1) (spec_Reads_y1 op0 v0) () hx7)) (by (simp only [go_sem, hb2, hb4]) <;> (with_reducible and_intros) <;> first | assumption | rfl | omega | (unfold maxLen; omega)) rfl rfl rfl (fun _ => rfl) rfl (fun _ => rfl) rfl (fun _ => rfl) (fun _ => rfl) (fun _ => rfl) (fun _ => rfl) rfl (fun _ _ => by first | rfl | (exact (hΓ _).trans (hΓ _).symm) | (exact (hΓx _).trans (hΓ _).symm)) (fun _ _ => by first | rfl | (exact (hΓ _).trans (hΓ _).symm) | (exact (hΓx _).trans (hΓ _).symm)) ?_ ?_
    ·intro lpy1 y1 st1 x8 h
     unfold spec_Reads_y1 at h
     refine zV [(3, .bp 1900 0), (4, .bp 1901 0), (5, .bp 1902 0), (6, .bp 1903 0), (23, .int .i64 y1.1), (24, .sl (.int .i64) y1.2)] [(1900, .box 3 [.int .i64 op0]), (1901, .box 4 [.bool false]), (1902, .box 28 [.int .i64 0]), (1903, .box 60 [.int .i64 v0.1, .int .i64 v0.2.1, .sl (.sl (.int .i64)) v0.2.2.1, .sl (.sl (.int .i64)) v0.2.2.2.1])] gt ?_
     refine AW.ops ?_
     refine zA [(3, .bp 1900 0), (4, .bp 1901 0), (5, .bp 1902 0), (6, .bp 1903 0), (8, .int .i64 y1.1)] [(1900, .box 3 [.int .i64 op0]), (1901, .box 4 [.bool false]), (1902, .box 28 [.int .i64 0]), (1903, .box 60 [.int .i64 v0.1, .int .i64 v0.2.1, .sl (.sl (.int .i64)) v0.2.2.1, .sl (.sl (.int .i64)) v0.2.2.2.1])] ?_
     refine And.intro rfl ?_
     refine AW.block ?_
     refine AW.seq ?_
     refine AW.draw tab_ok mixed_ok [] [] (by decide) (by kernel_rfl) ?_
     obtain ⟨c10, h⟩ := ck_some.1 h
     obtain ⟨c11, h⟩ := ck_some.1 h
     refine adops_cut 6 (fun K' hK9 => ?_)
     try dsimp only [List.drop_succ_cons, List.drop_zero, List.take_succ_cons, List.take_zero]
     simp only [go_sem, hb2, hb4]
     repeat with_reducible refine zN ?_
     refine hK9 _ ?_
     obtain ⟨c13, h⟩ := ck_some.1 h
     obtain ⟨c14, h⟩ := ck_some.1 h
     refine adops_cut 4 (fun K' hK12 => ?_)
     try dsimp only [List.drop_succ_cons, List.drop_zero, List.take_succ_cons, List.take_zero]
     simp only [go_sem, hb2, hb4]
     repeat with_reducible refine zN ?_
     refine hK12 _ ?_
     obtain ⟨v0_4, hv15, h⟩ := Option.bind_eq_some_iff.1 h
     refine adops.call (by first | trivial | rfl) rfl rfl rfl (fun _ h => h) [] [] (hc_spec_machine_same (v0.1, v0.2.1, v0.2.2.1, v0.2.2.2.1) y1.1 ((v0.2.2.1.getD y1.1.toNat []).getD op0.toNat 0) hv15) rfl (by (simp only [go_sem, hb2, hb4]) <;> (with_reducible and_intros) <;> first | assumption | rfl | omega | (unfold maxLen; omega)) (by (simp only [go_sem, hb2, hb4]) <;> (with_reducible and_intros) <;> first | assumption | rfl | omega | (unfold maxLen; omega)) rfl ?_
     refine adops_cut 1 (fun K' hK16 => ?_)
     try dsimp only [List.drop_succ_cons, List.drop_zero, List.take_succ_cons, List.take_zero]
     simp only [go_sem, hb2, hb4]
     repeat with_reducible refine zN ?_
     refine hK16 _ ?_
     refine adops_nil ?_
     refine athen_n ?_
     refine zV [(3, .bp 1900 0), (4, .bp 1901 0), (5, .bp 1902 0), (6, .bp 1903 0), (36, .bool (!v0_4))] [(1900, .box 3 [.int .i64 op0]), (1901, .box 4 [.bool false]), (1902, .box 28 [.int .i64 0]), (1903, .box 60 [.int .i64 v0.1, .int .i64 v0.2.1, .sl (.sl (.int .i64)) v0.2.2.1, .sl (.sl (.int .i64)) v0.2.2.2.1])] gt ?_
     refine zQ h (fun hb17 h => ?_) (fun hb17 h => ?_)
     ·refine zo ?_
      refine zB [(3, .bp 1900 0), (4, .bp 1901 0), (5, .bp 1902 0), (6, .bp 1903 0)] [(1900, .box 3 [.int .i64 op0]), (1901, .box 4 [.bool false]), (1902, .box 28 [.int .i64 0]), (1903, .box 60 [.int .i64 v0.1, .int .i64 v0.2.1, .sl (.sl (.int .i64)) v0.2.2.1, .sl (.sl (.int .i64)) v0.2.2.2.1])] ?_
      refine AW.ret ?_
      refine ablock_r ?_
      obtain rfl := Option.some.inj h
      exact rpost_ret rfl rfl [] [] [] rfl (by (simp only [go_sem, hb2, hb4, hb17]) <;> (with_reducible and_intros) <;> first | assumption | rfl | omega | (unfold maxLen; omega))
     ·refine zm ?_
      obtain rfl := Option.some.inj h
      exact rpost_next rfl [] [] [] rfl (by (simp only [go_sem, hb2, hb4, hb17]) <;> (with_reducible and_intros) <;> first | assumption | rfl | omega | (unfold maxLen; omega))
    ·cases x6 with
     | inl st1_2 =>
      try simp only at h
      refine ablock_n ?_
      refine athen_n ?_
      exact AW.weaken (zL [] [] []) (hk_spec_Reads_k1 () h)
     | inr _ =>
      try simp only at h
      refine ablock_r ?_
      refine athen_r ?_
      obtain rfl := Option.some.inj h
      exact zR [] [] []

theorem hc_spec_machine_overwrites (m : Int × Int × (List (List Int)) × (List (List Int))) (state : Int) (a : Int) (b : Int) {r : Bool} (h : spec_machine_overwrites m state a b = some r) : HC Try.prog 88 [] [.agg [.int .i64 m.1, .int .i64 m.2.1, .sl (.sl (.int .i64)) m.2.2.1, .sl (.sl (.int .i64)) m.2.2.2], .int .i64 state, .int .i64 a, .int .i64 b] [] (.bool r) := by
 unfold spec_machine_overwrites at h
 refine zH Try.func88 [.tmp 8] 43 ?_
 refine zo ?_
 refine zB [(1, .int .i64 state), (2, .int .i64 a), (3, .int .i64 b), (4, .bp 4 0)] [(4, .box 60 [.int .i64 m.1, .int .i64 m.2.1, .sl (.sl (.int .i64)) m.2.2.1, .sl (.sl (.int .i64)) m.2.2.2])] ?_
 refine zo ?_
 refine zS 5 [(1, .int .i64 state), (3, .int .i64 b), (4, .bp 4 0), (14, .agg [.int .i64 m.1, .int .i64 m.2.1, .sl (.sl (.int .i64)) m.2.2.1, .sl (.sl (.int .i64)) m.2.2.2]), (15, .int .i64 state), (18, .own 18)] [(4, .box 60 [.int .i64 m.1, .int .i64 m.2.1, .sl (.sl (.int .i64)) m.2.2.1, .sl (.sl (.int .i64)) m.2.2.2]), (18, .arr 3 (.int .i64) [a, b])] ?_
 obtain ⟨v0, hv1, h⟩ := Option.bind_eq_some_iff.1 h
 refine zC [18] [] (hc_spec_machine_run m state [a, b] hv1) [(1, .int .i64 state), (3, .int .i64 b), (4, .bp 4 0), (19, .tup [.own 29000, .int .i64 v0.2])] [(4, .box 60 [.int .i64 m.1, .int .i64 m.2.1, .sl (.sl (.int .i64)) m.2.2.1, .sl (.sl (.int .i64)) m.2.2.2]), (29000, .arr 3 (.int .i64) v0.1)] ?_
 refine zB [(1, .int .i64 state), (3, .int .i64 b), (4, .bp 4 0), (9, .own 29000), (10, .int .i64 v0.2)] [(4, .box 60 [.int .i64 m.1, .int .i64 m.2.1, .sl (.sl (.int .i64)) m.2.2.1, .sl (.sl (.int .i64)) m.2.2.2]), (29000, .arr 3 (.int .i64) v0.1)] ?_
 refine zo ?_
 refine zS 4 [(4, .bp 4 0), (9, .own 29000), (10, .int .i64 v0.2), (23, .agg [.int .i64 m.1, .int .i64 m.2.1, .sl (.sl (.int .i64)) m.2.2.1, .sl (.sl (.int .i64)) m.2.2.2]), (24, .int .i64 state), (26, .own 26)] [(4, .box 60 [.int .i64 m.1, .int .i64 m.2.1, .sl (.sl (.int .i64)) m.2.2.1, .sl (.sl (.int .i64)) m.2.2.2]), (26, .arr 3 (.int .i64) [b]), (29000, .arr 3 (.int .i64) v0.1)] ?_
 obtain ⟨v0_2, hv2, h⟩ := Option.bind_eq_some_iff.1 h
 refine zC [26] [] (hc_spec_machine_run m state [b] hv2) [(4, .bp 4 0), (9, .own 29000), (10, .int .i64 v0.2), (27, .tup [.own 37000, .int .i64 v0_2.2])] [(4, .box 60 [.int .i64 m.1, .int .i64 m.2.1, .sl (.sl (.int .i64)) m.2.2.1, .sl (.sl (.int .i64)) m.2.2.2]), (29000, .arr 3 (.int .i64) v0.1), (37000, .arr 3 (.int .i64) v0_2.1)] ?_
 refine zB [(4, .bp 4 0), (9, .own 29000), (10, .int .i64 v0.2), (11, .own 37000), (12, .int .i64 v0_2.2)] [(4, .box 60 [.int .i64 m.1, .int .i64 m.2.1, .sl (.sl (.int .i64)) m.2.2.1, .sl (.sl (.int .i64)) m.2.2.2]), (29000, .arr 3 (.int .i64) v0.1), (37000, .arr 3 (.int .i64) v0_2.1)] ?_
 refine AW.seq ?_
 refine AW.draw tab_ok mixed_ok [] [] (by decide) (by kernel_rfl) ?_
 obtain ⟨c4, h⟩ := ck_some.1 h
 obtain ⟨c5, h⟩ := ck_some.1 h
 refine adops_cut 6 (fun K' hK3 => ?_)
 try dsimp only [List.drop_succ_cons, List.drop_zero, List.take_succ_cons, List.take_zero]
 simp only [go_sem]
 repeat with_reducible refine zN ?_
 refine hK3 _ ?_
 refine adops_cut 2 (fun K' hK6 => ?_)
 try dsimp only [List.drop_succ_cons, List.drop_zero, List.take_succ_cons, List.take_zero]
 simp only [go_sem]
 repeat with_reducible refine zN ?_
 refine hK6 _ ?_
 rcases zI h with ⟨hb7, h⟩ | ⟨hb7, h⟩
 ·simp only [hb7]
  refine adops_cut 3 (fun K' hK8 => ?_)
  try dsimp only [List.drop_succ_cons, List.drop_zero, List.take_succ_cons, List.take_zero]
  simp only [go_sem, hb7]
  repeat with_reducible refine zN ?_
  refine hK8 _ ?_
  obtain ⟨v0_3, hv9, h⟩ := Option.bind_eq_some_iff.1 h
  refine adops.call (by first | trivial | rfl) rfl rfl rfl (fun _ h => ⟨fun _ => h, fun hn => absurd rfl hn⟩) [] [] (hc_spec_machine_same m v0.2 v0_2.2 hv9) rfl (by (simp only [go_sem, hb7]) <;> (with_reducible and_intros) <;> first | assumption | rfl | omega | (unfold maxLen; omega)) (by (simp only [go_sem, hb7]) <;> (with_reducible and_intros) <;> first | assumption | rfl | omega | (unfold maxLen; omega)) rfl ?_
  refine adops_cut 2 (fun K' hK10 => ?_)
  try dsimp only [List.drop_succ_cons, List.drop_zero, List.take_succ_cons, List.take_zero]
  simp only [go_sem, hb7]
  repeat with_reducible refine zN ?_
  refine hK10 _ ?_
  refine adops_nil ?_
  refine athen_n ?_
  refine zV [(8, .bool v0_3)] [] gt ?_
  refine AW.ret ?_
  obtain rfl := Option.some.inj h
  exact zR [] [] []
 ·simp only [hb7]
  refine adops_cut 4 (fun K' hK11 => ?_)
  try dsimp only [List.drop_succ_cons, List.drop_zero, List.take_succ_cons, List.take_zero]
  simp only [go_sem, hb7]
  repeat with_reducible refine zN ?_
  refine hK11 _ ?_
  refine adops_cut 2 (fun K' hK12 => ?_)
  try dsimp only [List.drop_succ_cons, List.drop_zero, List.take_succ_cons, List.take_zero]
  simp only [go_sem, hb7]
  repeat with_reducible refine zN ?_
  refine hK12 _ ?_
  refine adops_nil ?_
  refine athen_n ?_
  refine zV [(8, .bool false)] [] gt ?_
  refine AW.ret ?_
  obtain rfl := Option.some.inj h
  exact zR [] [] []

theorem hc_spec_machine_meddle (m : Int × Int × (List (List Int)) × (List (List Int))) (state : Int) (a : Int) (b : Int) {r : Bool} (h : spec_machine_meddle m state a b = some r) : HC Try.prog 91 [] [.agg [.int .i64 m.1, .int .i64 m.2.1, .sl (.sl (.int .i64)) m.2.2.1, .sl (.sl (.int .i64)) m.2.2.2], .int .i64 state, .int .i64 a, .int .i64 b] [] (.bool r) := by
 unfold spec_machine_meddle at h
 refine zH Try.func91 [.tmp 8] 31 ?_
 refine zo ?_
 refine zB [(1, .int .i64 state), (2, .int .i64 a), (3, .int .i64 b), (4, .bp 4 0)] [(4, .box 60 [.int .i64 m.1, .int .i64 m.2.1, .sl (.sl (.int .i64)) m.2.2.1, .sl (.sl (.int .i64)) m.2.2.2])] ?_
 refine zo ?_
 refine zS 4 [(1, .int .i64 state), (2, .int .i64 a), (3, .int .i64 b), (4, .bp 4 0), (9, .agg [.int .i64 m.1, .int .i64 m.2.1, .sl (.sl (.int .i64)) m.2.2.1, .sl (.sl (.int .i64)) m.2.2.2]), (10, .int .i64 state), (11, .int .i64 a), (12, .int .i64 b)] [(4, .box 60 [.int .i64 m.1, .int .i64 m.2.1, .sl (.sl (.int .i64)) m.2.2.1, .sl (.sl (.int .i64)) m.2.2.2])] ?_
 obtain ⟨v0, hv1, h⟩ := Option.bind_eq_some_iff.1 h
 refine zC [] [] (hc_spec_machine_commute m state a b hv1) [(1, .int .i64 state), (2, .int .i64 a), (3, .int .i64 b), (4, .bp 4 0), (13, .bool v0)] [(4, .box 60 [.int .i64 m.1, .int .i64 m.2.1, .sl (.sl (.int .i64)) m.2.2.1, .sl (.sl (.int .i64)) m.2.2.2])] ?_
 refine zS 2 [(1, .int .i64 state), (2, .int .i64 a), (3, .int .i64 b), (4, .bp 4 0), (15, .bool (!v0))] [(4, .box 60 [.int .i64 m.1, .int .i64 m.2.1, .sl (.sl (.int .i64)) m.2.2.1, .sl (.sl (.int .i64)) m.2.2.2])] ?_
 rcases zI h with ⟨hb2, h⟩ | ⟨hb2, h⟩
 ·refine zS 4 [(1, .int .i64 state), (2, .int .i64 a), (3, .int .i64 b), (4, .bp 4 0), (15, .bool true), (16, .agg [.int .i64 m.1, .int .i64 m.2.1, .sl (.sl (.int .i64)) m.2.2.1, .sl (.sl (.int .i64)) m.2.2.2]), (17, .int .i64 state), (18, .int .i64 a), (19, .int .i64 b)] [(4, .box 60 [.int .i64 m.1, .int .i64 m.2.1, .sl (.sl (.int .i64)) m.2.2.1, .sl (.sl (.int .i64)) m.2.2.2])] ?_
  obtain ⟨v0_2, hv3, h⟩ := Option.bind_eq_some_iff.1 h
  refine zG [] [] (hc_spec_machine_overwrites m state a b hv3) [(1, .int .i64 state), (2, .int .i64 a), (3, .int .i64 b), (4, .bp 4 0), (15, .bool true), (20, .bool v0_2)] [(4, .box 60 [.int .i64 m.1, .int .i64 m.2.1, .sl (.sl (.int .i64)) m.2.2.1, .sl (.sl (.int .i64)) m.2.2.2])] ?_
  refine zS 3 [(1, .int .i64 state), (2, .int .i64 a), (3, .int .i64 b), (4, .bp 4 0), (23, .bool (!v0_2))] [(4, .box 60 [.int .i64 m.1, .int .i64 m.2.1, .sl (.sl (.int .i64)) m.2.2.1, .sl (.sl (.int .i64)) m.2.2.2])] ?_
  rcases zI h with ⟨hb4, h⟩ | ⟨hb4, h⟩
  ·refine zS 4 [(23, .bool true), (24, .agg [.int .i64 m.1, .int .i64 m.2.1, .sl (.sl (.int .i64)) m.2.2.1, .sl (.sl (.int .i64)) m.2.2.2]), (25, .int .i64 state), (26, .int .i64 b), (27, .int .i64 a)] [] ?_
   obtain ⟨v0_3, hv5, h⟩ := Option.bind_eq_some_iff.1 h
   refine zG [] [] (hc_spec_machine_overwrites m state b a hv5) [(23, .bool true), (28, .bool v0_3)] [] ?_
   refine zB [(8, .bool (!v0_3))] [] ?_
   refine AW.ret ?_
   obtain rfl := Option.some.inj h
   exact zR [] [] []
  ·refine zS 4 [(23, .bool false), (24, .cv (undef)), (25, .cv (undef)), (26, .cv (undef)), (27, .cv (undef))] [] ?_
   refine zB [(8, .bool false)] [] ?_
   refine AW.ret ?_
   obtain rfl := Option.some.inj h
   exact zR [] [] []
 ·refine zS 4 [(1, .int .i64 state), (2, .int .i64 a), (3, .int .i64 b), (4, .bp 4 0), (15, .bool false), (16, .cv (undef)), (17, .cv (undef)), (18, .cv (undef)), (19, .cv (undef))] [(4, .box 60 [.int .i64 m.1, .int .i64 m.2.1, .sl (.sl (.int .i64)) m.2.2.1, .sl (.sl (.int .i64)) m.2.2.2])] ?_
  refine zS 6 [(2, .int .i64 a), (3, .int .i64 b), (23, .bool false), (24, .cv (undef)), (25, .cv (undef))] [] ?_
  refine zS 4 [(23, .bool false), (29, .cv (undef))] [] ?_
  refine zB [(8, .bool false)] [] ?_
  refine AW.ret ?_
  obtain rfl := Option.some.inj h
  exact zR [] [] []

theorem hc_spec_Meddles (s : Int × Int × (List (List Int)) × (List (List Int))) {r : Int × Int × Int × Int} (h : spec_Meddles s = some r) : HC Try.prog 50 [] [.agg [.int .i64 s.1, .int .i64 s.2.1, .sl (.sl (.int .i64)) s.2.2.1, .sl (.sl (.int .i64)) s.2.2.2]] [] (.tup [.int .i64 r.1, .int .i64 r.2.1, .int .i64 r.2.2.1, .int .i64 r.2.2.2]) := by
 unfold spec_Meddles at h
 refine zH Try.func50 [.tmp 2, .tmp 3, .tmp 4, .tmp 5] 48 ?_
 refine zo ?_
 refine zB [(1, .bp 1 0)] [(1, .box 24 [.int .i64 s.1, .int .i64 s.2.1, .sl (.sl (.int .i64)) s.2.2.1, .sl (.sl (.int .i64)) s.2.2.2])] ?_
 refine zo ?_
 refine zS 1 [(12, .agg [.int .i64 s.1, .int .i64 s.2.1, .sl (.sl (.int .i64)) s.2.2.1, .sl (.sl (.int .i64)) s.2.2.2])] [] ?_
 obtain ⟨v0, hv1, h⟩ := Option.bind_eq_some_iff.1 h
 refine zC [] [] (hc_spec_checked s [] hv1) [(13, .tup [.agg [.int .i64 v0.1, .int .i64 v0.2.1, .sl (.sl (.int .i64)) v0.2.2.1, .sl (.sl (.int .i64)) v0.2.2.2.1], .int .i64 v0.2.2.2.2])] [] ?_
 refine zB [(5, .int .i64 v0.2.2.2.2), (6, .bp 6 0)] [(6, .box 60 [.int .i64 v0.1, .int .i64 v0.2.1, .sl (.sl (.int .i64)) v0.2.2.1, .sl (.sl (.int .i64)) v0.2.2.2.1])] ?_
 refine AW.seq ?_
 refine zo ?_
 refine zB [(5, .int .i64 v0.2.2.2.2), (6, .bp 6 0), (17, .bool (!(decide (v0.2.2.2.2 = 0))))] [(6, .box 60 [.int .i64 v0.1, .int .i64 v0.2.1, .sl (.sl (.int .i64)) v0.2.2.1, .sl (.sl (.int .i64)) v0.2.2.2.1])] ?_
 refine zQ h (fun hb2 h => ?_) (fun hb2 h => ?_)
 ·refine zo ?_
  refine zB [(2, .int .i64 0), (3, .int .i64 0), (4, .int .i64 0), (5, .int .i64 v0.2.2.2.2)] [] ?_
  refine zr ?_
  obtain rfl := Option.some.inj h
  exact zR [] [] []
 ·refine zk ?_
  refine AW.have1 (fun _ : Unit => spec_Meddles_k1 = some r) (fun _ => ⟨fr [], hpGet [], gt⟩) (fun _ h => ?_) (fun hk_spec_Meddles_k1 => ?_)
  ·unfold spec_Meddles_k1 at h
   refine zo ?_
   refine zB [(2, .int .i64 0), (3, .int .i64 0), (4, .int .i64 0), (5, .int .i64 5)] [] ?_
   refine AW.ret ?_
   obtain rfl := Option.some.inj h
   exact zR [] [] []
  ·refine AW.seq ?_
   refine zo ?_
   refine zS 1 [(6, .bp 6 0), (19, .agg [.int .i64 v0.1, .int .i64 v0.2.1, .sl (.sl (.int .i64)) v0.2.2.1, .sl (.sl (.int .i64)) v0.2.2.2.1])] [(6, .box 60 [.int .i64 v0.1, .int .i64 v0.2.1, .sl (.sl (.int .i64)) v0.2.2.1, .sl (.sl (.int .i64)) v0.2.2.2.1])] ?_
   obtain ⟨v0_2, hv3, h⟩ := Option.bind_eq_some_iff.1 h
   refine zC [] [] (hc_spec_machine_reached (v0.1, v0.2.1, v0.2.2.1, v0.2.2.2.1) hv3) [(6, .bp 6 0), (20, .own 30000)] [(6, .box 60 [.int .i64 v0.1, .int .i64 v0.2.1, .sl (.sl (.int .i64)) v0.2.2.1, .sl (.sl (.int .i64)) v0.2.2.2.1]), (30000, .arr 3 (.int .i64) v0_2)] ?_
   refine zB [(6, .bp 6 0), (20, .own 30000), (21, .int .i64 (v0_2.length : Int)), (22, .int .i64 0)] [(6, .box 60 [.int .i64 v0.1, .int .i64 v0.2.1, .sl (.sl (.int .i64)) v0.2.2.1, .sl (.sl (.int .i64)) v0.2.2.2.1]), (30000, .arr 3 (.int .i64) v0_2)] ?_
   refine AW.block ?_
   obtain ⟨rv8, hw4, ho5⟩ := Option.bind_eq_some_iff.1 h
   refine AW.loopO (spec_Meddles_b1 v0 v0_2) (fun st1 => ⟨fr [(6, .bp 6 0), (20, .own 30000), (21, .int .i64 (v0_2.length : Int)), (22, .int .i64 st1)], hpGet [(6, .box 60 [.int .i64 v0.1, .int .i64 v0.2.1, .sl (.sl (.int .i64)) v0.2.2.1, .sl (.sl (.int .i64)) v0.2.2.2.1]), (30000, .arr 3 (.int .i64) v0_2)], gt⟩) 0 hw4 (zL [] [] []) ?_
   intro st1 x7 h hd6
   unfold spec_Meddles_b1 at h
   refine zo ?_
   refine zB [(6, .bp 6 0), (20, .own 30000), (21, .int .i64 (v0_2.length : Int)), (22, .int .i64 st1), (23, .bool (decide (st1 < (v0_2.length : Int))))] [(6, .box 60 [.int .i64 v0.1, .int .i64 v0.2.1, .sl (.sl (.int .i64)) v0.2.2.1, .sl (.sl (.int .i64)) v0.2.2.2.1]), (30000, .arr 3 (.int .i64) v0_2)] ?_
   refine AW.seq ?_
   refine zQ h (fun hb9 h => ?_) (fun hb9 h => ?_)
   ·refine zk ?_
    refine AW.have1 (fun _ : Unit => spec_Meddles_k2 st1 = some x7) (fun _ => ⟨fr [(6, .bp 6 0), (20, .own 30000), (21, .int .i64 (v0_2.length : Int)), (22, .int .i64 st1)], hpGet [(6, .box 60 [.int .i64 v0.1, .int .i64 v0.2.1, .sl (.sl (.int .i64)) v0.2.2.1, .sl (.sl (.int .i64)) v0.2.2.2.1]), (30000, .arr 3 (.int .i64) v0_2)], gt⟩) (fun _ h => ?_) (fun hk_spec_Meddles_k2 => ?_)
    ·unfold spec_Meddles_k2 at h
     refine AW.ops ?_
     obtain ⟨c10, h⟩ := ck_some.1 h
     refine zA [(6, .bp 6 0), (20, .own 30000), (21, .int .i64 (v0_2.length : Int)), (22, .int .i64 (st1 + 1))] [(6, .box 60 [.int .i64 v0.1, .int .i64 v0.2.1, .sl (.sl (.int .i64)) v0.2.2.1, .sl (.sl (.int .i64)) v0.2.2.2.1]), (30000, .arr 3 (.int .i64) v0_2)] ?_
     obtain rfl := Option.some.inj h
     exact ⟨_, rfl, zL [] [] []⟩
    ·refine AW.seq ?_
     refine AW.block ?_
     refine zo ?_
     obtain ⟨c11, h⟩ := ck_some.1 h
     obtain ⟨c12, h⟩ := ck_some.1 h
     refine zB [(6, .bp 6 0), (8, .int .i64 (v0_2.getD st1.toNat 0)), (20, .own 30000), (21, .int .i64 (v0_2.length : Int)), (22, .int .i64 st1)] [(6, .box 60 [.int .i64 v0.1, .int .i64 v0.2.1, .sl (.sl (.int .i64)) v0.2.2.1, .sl (.sl (.int .i64)) v0.2.2.2.1]), (30000, .arr 3 (.int .i64) v0_2)] ?_
     refine zo ?_
     refine zB [(6, .bp 6 0), (8, .int .i64 (v0_2.getD st1.toNat 0)), (20, .own 30000), (21, .int .i64 (v0_2.length : Int)), (22, .int .i64 st1), (27, .int .i64 v0.2.1), (28, .int .i64 0)] [(6, .box 60 [.int .i64 v0.1, .int .i64 v0.2.1, .sl (.sl (.int .i64)) v0.2.2.1, .sl (.sl (.int .i64)) v0.2.2.2.1]), (30000, .arr 3 (.int .i64) v0_2)] ?_
     refine AW.block ?_
     obtain ⟨rv17, hw13, ho14⟩ := Option.bind_eq_some_iff.1 h
     refine AW.loopO (spec_Meddles_b2 v0 v0_2 st1) (fun st2 => ⟨fr [(6, .bp 6 0), (8, .int .i64 (v0_2.getD st1.toNat 0)), (20, .own 30000), (21, .int .i64 (v0_2.length : Int)), (22, .int .i64 st1), (27, .int .i64 v0.2.1), (28, .int .i64 st2)], hpGet [(6, .box 60 [.int .i64 v0.1, .int .i64 v0.2.1, .sl (.sl (.int .i64)) v0.2.2.1, .sl (.sl (.int .i64)) v0.2.2.2.1]), (30000, .arr 3 (.int .i64) v0_2)], gt⟩) 0 hw13 (zL [] [] []) ?_
     intro st2 x16 h hd15
     unfold spec_Meddles_b2 at h
     refine zo ?_
     refine zB [(6, .bp 6 0), (8, .int .i64 (v0_2.getD st1.toNat 0)), (20, .own 30000), (21, .int .i64 (v0_2.length : Int)), (22, .int .i64 st1), (27, .int .i64 v0.2.1), (28, .int .i64 st2), (29, .bool (decide (st2 < v0.2.1)))] [(6, .box 60 [.int .i64 v0.1, .int .i64 v0.2.1, .sl (.sl (.int .i64)) v0.2.2.1, .sl (.sl (.int .i64)) v0.2.2.2.1]), (30000, .arr 3 (.int .i64) v0_2)] ?_
     refine AW.seq ?_
     refine zQ h (fun hb18 h => ?_) (fun hb18 h => ?_)
     ·refine zk ?_
      refine AW.have1 (fun _ : Unit => spec_Meddles_k3 st2 = some x16) (fun _ => ⟨fr [(6, .bp 6 0), (8, .int .i64 (v0_2.getD st1.toNat 0)), (20, .own 30000), (21, .int .i64 (v0_2.length : Int)), (22, .int .i64 st1), (27, .int .i64 v0.2.1), (28, .int .i64 st2)], hpGet [(6, .box 60 [.int .i64 v0.1, .int .i64 v0.2.1, .sl (.sl (.int .i64)) v0.2.2.1, .sl (.sl (.int .i64)) v0.2.2.2.1]), (30000, .arr 3 (.int .i64) v0_2)], gt⟩) (fun _ h => ?_) (fun hk_spec_Meddles_k3 => ?_)
      ·unfold spec_Meddles_k3 at h
       refine AW.ops ?_
       obtain ⟨c19, h⟩ := ck_some.1 h
       refine zA [(6, .bp 6 0), (8, .int .i64 (v0_2.getD st1.toNat 0)), (20, .own 30000), (21, .int .i64 (v0_2.length : Int)), (22, .int .i64 st1), (27, .int .i64 v0.2.1), (28, .int .i64 (st2 + 1))] [(6, .box 60 [.int .i64 v0.1, .int .i64 v0.2.1, .sl (.sl (.int .i64)) v0.2.2.1, .sl (.sl (.int .i64)) v0.2.2.2.1]), (30000, .arr 3 (.int .i64) v0_2)] ?_
       obtain rfl := Option.some.inj h
       exact ⟨_, rfl, zL [] [] []⟩
      ·refine AW.seq ?_
       refine AW.block ?_
       refine zo ?_
       refine zB [(6, .bp 6 0), (8, .int .i64 (v0_2.getD st1.toNat 0)), (9, .int .i64 st2), (20, .own 30000), (21, .int .i64 (v0_2.length : Int)), (22, .int .i64 st1), (27, .int .i64 v0.2.1), (28, .int .i64 st2)] [(6, .box 60 [.int .i64 v0.1, .int .i64 v0.2.1, .sl (.sl (.int .i64)) v0.2.2.1, .sl (.sl (.int .i64)) v0.2.2.2.1]), (30000, .arr 3 (.int .i64) v0_2)] ?_
       refine zo ?_
       refine zB [(6, .bp 6 0), (8, .int .i64 (v0_2.getD st1.toNat 0)), (9, .int .i64 st2), (10, .int .i64 st2), (20, .own 30000), (21, .int .i64 (v0_2.length : Int)), (22, .int .i64 st1), (27, .int .i64 v0.2.1), (28, .int .i64 st2)] [(6, .box 60 [.int .i64 v0.1, .int .i64 v0.2.1, .sl (.sl (.int .i64)) v0.2.2.1, .sl (.sl (.int .i64)) v0.2.2.2.1]), (30000, .arr 3 (.int .i64) v0_2)] ?_
       refine AW.block ?_
       obtain ⟨rv24, hw20, ho21⟩ := Option.bind_eq_some_iff.1 h
       refine AW.loopO (spec_Meddles_b3 v0 v0_2 st1 st2) (fun st3 => ⟨fr [(6, .bp 6 0), (8, .int .i64 (v0_2.getD st1.toNat 0)), (9, .int .i64 st2), (10, .int .i64 st3), (20, .own 30000), (21, .int .i64 (v0_2.length : Int)), (22, .int .i64 st1), (27, .int .i64 v0.2.1), (28, .int .i64 st2)], hpGet [(6, .box 60 [.int .i64 v0.1, .int .i64 v0.2.1, .sl (.sl (.int .i64)) v0.2.2.1, .sl (.sl (.int .i64)) v0.2.2.2.1]), (30000, .arr 3 (.int .i64) v0_2)], gt⟩) st2 hw20 (zL [] [] []) ?_
       intro st3 x23 h hd22
       unfold spec_Meddles_b3 at h
       refine AW.seq ?_
       refine zo ?_
       refine zB [(6, .bp 6 0), (8, .int .i64 (v0_2.getD st1.toNat 0)), (9, .int .i64 st2), (10, .int .i64 st3), (20, .own 30000), (21, .int .i64 (v0_2.length : Int)), (22, .int .i64 st1), (27, .int .i64 v0.2.1), (28, .int .i64 st2), (35, .bool (decide (st3 < v0.2.1)))] [(6, .box 60 [.int .i64 v0.1, .int .i64 v0.2.1, .sl (.sl (.int .i64)) v0.2.2.1, .sl (.sl (.int .i64)) v0.2.2.2.1]), (30000, .arr 3 (.int .i64) v0_2)] ?_
       refine zQ h (fun hb25 h => ?_) (fun hb25 h => ?_)
       ·refine zk ?_
        refine AW.seq ?_
        refine AW.block ?_
        refine zo ?_
        refine zS 4 [(6, .bp 6 0), (8, .int .i64 (v0_2.getD st1.toNat 0)), (9, .int .i64 st2), (10, .int .i64 st3), (20, .own 30000), (21, .int .i64 (v0_2.length : Int)), (22, .int .i64 st1), (27, .int .i64 v0.2.1), (28, .int .i64 st2), (38, .agg [.int .i64 v0.1, .int .i64 v0.2.1, .sl (.sl (.int .i64)) v0.2.2.1, .sl (.sl (.int .i64)) v0.2.2.2.1]), (39, .int .i64 (v0_2.getD st1.toNat 0)), (40, .int .i64 st2), (41, .int .i64 st3)] [(6, .box 60 [.int .i64 v0.1, .int .i64 v0.2.1, .sl (.sl (.int .i64)) v0.2.2.1, .sl (.sl (.int .i64)) v0.2.2.2.1]), (30000, .arr 3 (.int .i64) v0_2)] ?_
        obtain ⟨v0_3, hv26, h⟩ := Option.bind_eq_some_iff.1 h
        refine zC [] [] (hc_spec_machine_meddle (v0.1, v0.2.1, v0.2.2.1, v0.2.2.2.1) (v0_2.getD st1.toNat 0) st2 st3 hv26) [(6, .bp 6 0), (8, .int .i64 (v0_2.getD st1.toNat 0)), (9, .int .i64 st2), (10, .int .i64 st3), (20, .own 30000), (21, .int .i64 (v0_2.length : Int)), (22, .int .i64 st1), (27, .int .i64 v0.2.1), (28, .int .i64 st2), (42, .bool v0_3)] [(6, .box 60 [.int .i64 v0.1, .int .i64 v0.2.1, .sl (.sl (.int .i64)) v0.2.2.1, .sl (.sl (.int .i64)) v0.2.2.2.1]), (30000, .arr 3 (.int .i64) v0_2)] ?_
        refine zB [(6, .bp 6 0), (8, .int .i64 (v0_2.getD st1.toNat 0)), (9, .int .i64 st2), (10, .int .i64 st3), (20, .own 30000), (21, .int .i64 (v0_2.length : Int)), (22, .int .i64 st1), (27, .int .i64 v0.2.1), (28, .int .i64 st2), (42, .bool v0_3)] [(6, .box 60 [.int .i64 v0.1, .int .i64 v0.2.1, .sl (.sl (.int .i64)) v0.2.2.1, .sl (.sl (.int .i64)) v0.2.2.2.1]), (30000, .arr 3 (.int .i64) v0_2)] ?_
        refine zQ h (fun hb27 h => ?_) (fun hb27 h => ?_)
        ·refine zo ?_
         refine zB [(2, .int .i64 (v0_2.getD st1.toNat 0)), (3, .int .i64 st2), (4, .int .i64 st3), (5, .int .i64 0)] [] ?_
         refine AW.ret ?_
         refine ablock_r ?_
         refine athen_r ?_
         obtain rfl := Option.some.inj h
         rw [← hd22 _ rfl] at ho21
         have h := ho21
         try simp only at h
         refine athen_r ?_
         refine ablock_r ?_
         refine ablock_r ?_
         refine athen_r ?_
         obtain rfl := Option.some.inj h
         rw [← hd15 _ rfl] at ho14
         have h := ho14
         try simp only at h
         refine athen_r ?_
         refine ablock_r ?_
         refine ablock_r ?_
         refine athen_r ?_
         obtain rfl := Option.some.inj h
         rw [← hd6 _ rfl] at ho5
         have h := ho5
         try simp only at h
         refine athen_r ?_
         refine ablock_r ?_
         refine athen_r ?_
         obtain rfl := Option.some.inj h
         exact zR [] [] []
        ·refine zm ?_
         refine athen_n ?_
         refine AW.ops ?_
         obtain ⟨c28, h⟩ := ck_some.1 h
         refine zA [(6, .bp 6 0), (8, .int .i64 (v0_2.getD st1.toNat 0)), (9, .int .i64 st2), (10, .int .i64 (st3 + 1)), (20, .own 30000), (21, .int .i64 (v0_2.length : Int)), (22, .int .i64 st1), (27, .int .i64 v0.2.1), (28, .int .i64 st2)] [(6, .box 60 [.int .i64 v0.1, .int .i64 v0.2.1, .sl (.sl (.int .i64)) v0.2.2.1, .sl (.sl (.int .i64)) v0.2.2.2.1]), (30000, .arr 3 (.int .i64) v0_2)] ?_
         obtain rfl := Option.some.inj h
         exact ⟨_, rfl, zL [] [] []⟩
       ·refine AW.exit ?_
        refine athen_e ?_
        obtain rfl := Option.some.inj h
        rw [← hd22 _ rfl] at ho21
        have h := ho21
        try simp only at h
        refine athen_e ?_
        refine ablock_s ?_
        refine ablock_n ?_
        refine athen_n ?_
        exact AW.weaken (zL [] [] []) (hk_spec_Meddles_k3 () h)
     ·refine AW.exit ?_
      refine athen_e ?_
      obtain rfl := Option.some.inj h
      rw [← hd15 _ rfl] at ho14
      have h := ho14
      try simp only at h
      refine athen_e ?_
      refine ablock_s ?_
      refine ablock_n ?_
      refine athen_n ?_
      exact AW.weaken (zL [] [] []) (hk_spec_Meddles_k2 () h)
   ·refine AW.exit ?_
    refine athen_e ?_
    obtain rfl := Option.some.inj h
    rw [← hd6 _ rfl] at ho5
    have h := ho5
    try simp only at h
    refine athen_e ?_
    refine ablock_s ?_
    refine athen_n ?_
    exact AW.weaken (zL [] [] []) (hk_spec_Meddles_k1 () h)

theorem hc_spec_told_2 (s : Int × Int × (List (List Int)) × (List (List Int))) (state : Int) (a : Int) (b : Int) {r : Bool × Int} (h : spec_told_2 s state a b = some r) : HC Try.prog 84 [] [.agg [.int .i64 s.1, .int .i64 s.2.1, .sl (.sl (.int .i64)) s.2.2.1, .sl (.sl (.int .i64)) s.2.2.2], .fn (.func 88) [] [], .int .i64 state, .int .i64 a, .int .i64 b] [] (.tup [.bool r.1, .int .i64 r.2]) := by
 unfold spec_told_2 at h
 refine zH Try.func84 [.tmp 10, .tmp 11] 37 ?_
 refine zo ?_
 refine zB [(1, .fn (.func 88) [] []), (2, .int .i64 state), (3, .int .i64 a), (4, .int .i64 b), (5, .bp 5 0)] [(5, .box 24 [.int .i64 s.1, .int .i64 s.2.1, .sl (.sl (.int .i64)) s.2.2.1, .sl (.sl (.int .i64)) s.2.2.2])] ?_
 refine zo ?_
 refine zS 3 [(1, .fn (.func 88) [] []), (2, .int .i64 state), (3, .int .i64 a), (4, .int .i64 b), (15, .agg [.int .i64 s.1, .int .i64 s.2.1, .sl (.sl (.int .i64)) s.2.2.1, .sl (.sl (.int .i64)) s.2.2.2]), (17, .own 17)] [(17, .arr 3 (.int .i64) [state])] ?_
 obtain ⟨v0, hv1, h⟩ := Option.bind_eq_some_iff.1 h
 refine zC [17] [] (hc_spec_checked s [state] hv1) [(1, .fn (.func 88) [] []), (2, .int .i64 state), (3, .int .i64 a), (4, .int .i64 b), (18, .tup [.agg [.int .i64 v0.1, .int .i64 v0.2.1, .sl (.sl (.int .i64)) v0.2.2.1, .sl (.sl (.int .i64)) v0.2.2.2.1], .int .i64 v0.2.2.2.2])] [] ?_
 refine zB [(1, .fn (.func 88) [] []), (2, .int .i64 state), (3, .int .i64 a), (4, .int .i64 b), (12, .bp 12 0), (13, .int .i64 v0.2.2.2.2)] [(12, .box 60 [.int .i64 v0.1, .int .i64 v0.2.1, .sl (.sl (.int .i64)) v0.2.2.1, .sl (.sl (.int .i64)) v0.2.2.2.1])] ?_
 refine AW.seq ?_
 refine zo ?_
 refine zB [(1, .fn (.func 88) [] []), (2, .int .i64 state), (3, .int .i64 a), (4, .int .i64 b), (12, .bp 12 0), (13, .int .i64 v0.2.2.2.2), (22, .bool (!(decide (v0.2.2.2.2 = 0))))] [(12, .box 60 [.int .i64 v0.1, .int .i64 v0.2.1, .sl (.sl (.int .i64)) v0.2.2.1, .sl (.sl (.int .i64)) v0.2.2.2.1])] ?_
 refine zQ h (fun hb2 h => ?_) (fun hb2 h => ?_)
 ·refine zo ?_
  refine zB [(10, .bool false), (11, .int .i64 v0.2.2.2.2)] [] ?_
  refine zr ?_
  obtain rfl := Option.some.inj h
  exact zR [] [] []
 ·refine zk ?_
  refine AW.seq ?_
  refine zo ?_
  refine zS 5 [(1, .fn (.func 88) [] []), (2, .int .i64 state), (3, .int .i64 a), (4, .int .i64 b), (12, .bp 12 0), (25, .fn (.func 90) [.agg [.int .i64 v0.1, .int .i64 v0.2.1, .sl (.sl (.int .i64)) v0.2.2.1, .sl (.sl (.int .i64)) v0.2.2.2.1]] []), (28, .own 28)] [(12, .box 60 [.int .i64 v0.1, .int .i64 v0.2.1, .sl (.sl (.int .i64)) v0.2.2.1, .sl (.sl (.int .i64)) v0.2.2.2.1]), (28, .arr 3 (.int .i64) [a, b])] ?_
  obtain ⟨v0_2, hv3, h⟩ := Option.bind_eq_some_iff.1 h
  refine zC [28] [] (hc_spec_all_3 (v0.1, v0.2.1, v0.2.2.1, v0.2.2.2.1) [a, b] hv3) [(1, .fn (.func 88) [] []), (2, .int .i64 state), (3, .int .i64 a), (4, .int .i64 b), (12, .bp 12 0), (29, .bool v0_2)] [(12, .box 60 [.int .i64 v0.1, .int .i64 v0.2.1, .sl (.sl (.int .i64)) v0.2.2.1, .sl (.sl (.int .i64)) v0.2.2.2.1])] ?_
  refine zB [(1, .fn (.func 88) [] []), (2, .int .i64 state), (3, .int .i64 a), (4, .int .i64 b), (12, .bp 12 0), (30, .bool (!v0_2))] [(12, .box 60 [.int .i64 v0.1, .int .i64 v0.2.1, .sl (.sl (.int .i64)) v0.2.2.1, .sl (.sl (.int .i64)) v0.2.2.2.1])] ?_
  refine zQ h (fun hb4 h => ?_) (fun hb4 h => ?_)
  ·refine zo ?_
   refine zB [(10, .bool false), (11, .int .i64 2)] [] ?_
   refine zr ?_
   obtain rfl := Option.some.inj h
   exact zR [] [] []
  ·refine zk ?_
   refine zo ?_
   refine zS 5 [(31, .fn (.func 88) [] []), (32, .agg [.int .i64 v0.1, .int .i64 v0.2.1, .sl (.sl (.int .i64)) v0.2.2.1, .sl (.sl (.int .i64)) v0.2.2.2.1]), (33, .int .i64 state), (34, .int .i64 a), (35, .int .i64 b)] [] ?_
   obtain ⟨v0_3, hv5, h⟩ := Option.bind_eq_some_iff.1 h
   refine zC [] [] (hc_spec_machine_overwrites (v0.1, v0.2.1, v0.2.2.1, v0.2.2.2.1) state a b hv5) [(36, .bool v0_3)] [] ?_
   refine zB [(10, .bool v0_3), (11, .int .i64 0)] [] ?_
   refine AW.ret ?_
   obtain rfl := Option.some.inj h
   exact zR [] [] []

theorem hc_spec_Overwrites (s : Int × Int × (List (List Int)) × (List (List Int))) (state : Int) (a : Int) (b : Int) {r : Bool × Int} (h : spec_Overwrites s state a b = some r) : HC Try.prog 46 [] [.agg [.int .i64 s.1, .int .i64 s.2.1, .sl (.sl (.int .i64)) s.2.2.1, .sl (.sl (.int .i64)) s.2.2.2], .int .i64 state, .int .i64 a, .int .i64 b] [] (.tup [.bool r.1, .int .i64 r.2]) := by
 unfold spec_Overwrites at h
 refine zH Try.func46 [.tmp 8, .tmp 9] 17 ?_
 refine zo ?_
 refine zB [(1, .int .i64 state), (2, .int .i64 a), (3, .int .i64 b), (4, .bp 4 0)] [(4, .box 24 [.int .i64 s.1, .int .i64 s.2.1, .sl (.sl (.int .i64)) s.2.2.1, .sl (.sl (.int .i64)) s.2.2.2])] ?_
 refine zo ?_
 refine zS 4 [(10, .agg [.int .i64 s.1, .int .i64 s.2.1, .sl (.sl (.int .i64)) s.2.2.1, .sl (.sl (.int .i64)) s.2.2.2]), (11, .int .i64 state), (12, .int .i64 a), (13, .int .i64 b)] [] ?_
 obtain ⟨v0, hv1, h⟩ := Option.bind_eq_some_iff.1 h
 refine zC [] [] (hc_spec_told_2 s state a b hv1) [(14, .tup [.bool v0.1, .int .i64 v0.2])] [] ?_
 refine zB [(8, .bool v0.1), (9, .int .i64 v0.2)] [] ?_
 refine AW.ret ?_
 obtain rfl := Option.some.inj h
 exact zR [] [] []

theorem hc_linealref01_calls (s : Int × Int × (List (List Int)) × (List (List Int))) (state : Int) (a : Int) (b : Int) {r : Int} (h : linealref01_calls s state a b = some r) : HC Try.prog 86 [] [.agg [.int .i64 s.1, .int .i64 s.2.1, .sl (.sl (.int .i64)) s.2.2.1, .sl (.sl (.int .i64)) s.2.2.2], .int .i64 state, .int .i64 a, .int .i64 b] [] (.int .i64 r) := by
 unfold linealref01_calls at h
 refine zH Try.func86 [.tmp 8] 29 ?_
 refine zo ?_
 refine zB [(1, .int .i64 state), (2, .int .i64 a), (3, .int .i64 b), (4, .bp 4 0)] [(4, .box 24 [.int .i64 s.1, .int .i64 s.2.1, .sl (.sl (.int .i64)) s.2.2.1, .sl (.sl (.int .i64)) s.2.2.2])] ?_
 refine zo ?_
 refine zS 3 [(2, .int .i64 a), (3, .int .i64 b), (4, .bp 4 0), (10, .agg [.int .i64 s.1, .int .i64 s.2.1, .sl (.sl (.int .i64)) s.2.2.1, .sl (.sl (.int .i64)) s.2.2.2]), (11, .int .i64 state), (12, .int .i64 state)] [(4, .box 24 [.int .i64 s.1, .int .i64 s.2.1, .sl (.sl (.int .i64)) s.2.2.1, .sl (.sl (.int .i64)) s.2.2.2])] ?_
 obtain ⟨v0, hv1, h⟩ := Option.bind_eq_some_iff.1 h
 refine zC [] [] (hc_linealref01_asked s state state hv1) [(2, .int .i64 a), (3, .int .i64 b), (4, .bp 4 0), (13, .int .i64 v0)] [(4, .box 24 [.int .i64 s.1, .int .i64 s.2.1, .sl (.sl (.int .i64)) s.2.2.1, .sl (.sl (.int .i64)) s.2.2.2])] ?_
 refine zB [(2, .int .i64 a), (3, .int .i64 b), (4, .bp 4 0), (9, .int .i64 v0)] [(4, .box 24 [.int .i64 s.1, .int .i64 s.2.1, .sl (.sl (.int .i64)) s.2.2.1, .sl (.sl (.int .i64)) s.2.2.2])] ?_
 refine AW.seq ?_
 refine zo ?_
 refine zS 3 [(2, .int .i64 a), (3, .int .i64 b), (4, .bp 4 0), (9, .int .i64 v0), (16, .bool (decide (v0 = 0)))] [(4, .box 24 [.int .i64 s.1, .int .i64 s.2.1, .sl (.sl (.int .i64)) s.2.2.1, .sl (.sl (.int .i64)) s.2.2.2])] ?_
 rcases zI h with ⟨hb2, h⟩ | ⟨hb2, h⟩
 ·refine zS 2 [(3, .int .i64 b), (4, .bp 4 0), (9, .int .i64 v0), (16, .bool true), (17, .agg [.int .i64 s.1, .int .i64 s.2.1, .sl (.sl (.int .i64)) s.2.2.1, .sl (.sl (.int .i64)) s.2.2.2]), (18, .int .i64 a)] [(4, .box 24 [.int .i64 s.1, .int .i64 s.2.1, .sl (.sl (.int .i64)) s.2.2.1, .sl (.sl (.int .i64)) s.2.2.2])] ?_
  obtain ⟨v0_2, hv3, h⟩ := Option.bind_eq_some_iff.1 h
  refine zG [] [] (hc_linealref01_IsOp s a hv3) [(3, .int .i64 b), (4, .bp 4 0), (9, .int .i64 v0), (16, .bool true), (19, .bool v0_2)] [(4, .box 24 [.int .i64 s.1, .int .i64 s.2.1, .sl (.sl (.int .i64)) s.2.2.1, .sl (.sl (.int .i64)) s.2.2.2])] ?_
  refine zS 2 [(3, .int .i64 b), (4, .bp 4 0), (9, .int .i64 v0), (16, .bool true), (21, .bool (!v0_2))] [(4, .box 24 [.int .i64 s.1, .int .i64 s.2.1, .sl (.sl (.int .i64)) s.2.2.1, .sl (.sl (.int .i64)) s.2.2.2])] ?_
  rcases zI h with ⟨hb4, h⟩ | ⟨hb4, h⟩
  ·refine zS 4 [(9, .int .i64 v0), (16, .bool true), (21, .bool true), (25, .cv (undef))] [] ?_
   refine zB [(9, .int .i64 v0), (27, .bool true)] [] ?_
   refine AW.cond (b := true) rfl (fun _ => ?_) (fun hb5 => by cases hb5)
   refine AW.ops ?_
   refine zB [(9, .int .i64 2)] [] ?_
   refine zo ?_
   refine zB [(8, .int .i64 2)] [] ?_
   refine AW.ret ?_
   obtain rfl := Option.some.inj h
   exact zR [] [] []
  ·refine zS 2 [(9, .int .i64 v0), (16, .bool true), (21, .bool false), (22, .agg [.int .i64 s.1, .int .i64 s.2.1, .sl (.sl (.int .i64)) s.2.2.1, .sl (.sl (.int .i64)) s.2.2.2]), (23, .int .i64 b)] [] ?_
   obtain ⟨v0_3, hv6, h⟩ := Option.bind_eq_some_iff.1 h
   refine zG [] [] (hc_linealref01_IsOp s b hv6) [(9, .int .i64 v0), (16, .bool true), (21, .bool false), (24, .bool v0_3)] [] ?_
   refine zB [(9, .int .i64 v0), (27, .bool (!v0_3))] [] ?_
   refine zQ h (fun hb7 h => ?_) (fun hb7 h => ?_)
   ·refine AW.ops ?_
    refine zB [(9, .int .i64 2)] [] ?_
    refine zo ?_
    refine zB [(8, .int .i64 2)] [] ?_
    refine AW.ret ?_
    obtain rfl := Option.some.inj h
    exact zR [] [] []
   ·refine zk ?_
    refine zo ?_
    refine zB [(8, .int .i64 v0)] [] ?_
    refine AW.ret ?_
    obtain rfl := Option.some.inj h
    exact zR [] [] []
 ·refine zS 4 [(3, .int .i64 b), (4, .bp 4 0), (9, .int .i64 v0), (16, .bool false), (20, .cv (undef))] [(4, .box 24 [.int .i64 s.1, .int .i64 s.2.1, .sl (.sl (.int .i64)) s.2.2.1, .sl (.sl (.int .i64)) s.2.2.2])] ?_
  refine zS 4 [(9, .int .i64 v0), (16, .bool false), (21, .cv (undef)), (24, .cv (undef))] [] ?_
  refine zB [(9, .int .i64 v0), (27, .bool false)] [] ?_
  refine AW.cond (b := false) rfl (fun hb8 => by cases hb8) (fun _ => ?_)
  refine zk ?_
  refine zo ?_
  refine zB [(8, .int .i64 v0)] [] ?_
  refine AW.ret ?_
  obtain rfl := Option.some.inj h
  exact zR [] [] []

end Go.Proofs.Ytfmokmhphfdbpaa
