/-
  Made by wip/tool/dc.py out of the print of the program: contracts.
-/
import Derived.Test.YtcgflignbhmoaaaQp
import Derived.Test.YtcgflignbhmoaaaShs
import Derived.Test.YtcgflignbhmoaaaAvd
import Derived.Test.YtcgflignbhmoaaaMgc2
import Derived.Test.YtcgflignbhmoaaaMgc5
import Derived.Test.YtcgflignbhmoaaaMgc6
import Derived.Test.YtcgflignbhmoaaaMgc7
namespace Go.Proofs.Ytcgflignbhmoaaa
open Go.RowKit

set_option linter.unusedSimpArgs false
set_option linter.unusedVariables false
set_option linter.constructorNameAsVariable false

set_option maxRecDepth 100000
set_option maxHeartbeats 2000000

theorem hc_spec_Commute (s : Int × Int × (List (List Int)) × (List (List Int))) (state : Int) (a : Int) (b : Int) {r : Bool × Int} (h : spec_Commute s state a b = some r) : HC Try.prog 44 [] [.agg [.int .i64 s.1, .int .i64 s.2.1, .sl (.sl (.int .i64)) s.2.2.1, .sl (.sl (.int .i64)) s.2.2.2], .int .i64 state, .int .i64 a, .int .i64 b] [] (.tup [.bool r.1, .int .i64 r.2]) := by
 unfold spec_Commute at h
 refine zH Try.func44 [.tmp 8, .tmp 9] 17 ?_
 refine zo ?_
 refine zB [(1, .int .i64 state), (2, .int .i64 a), (3, .int .i64 b), (4, .bp 4 0)] [(4, .box 24 [.int .i64 s.1, .int .i64 s.2.1, .sl (.sl (.int .i64)) s.2.2.1, .sl (.sl (.int .i64)) s.2.2.2])] ?_
 refine zo ?_
 refine zS 4 [(10, .agg [.int .i64 s.1, .int .i64 s.2.1, .sl (.sl (.int .i64)) s.2.2.1, .sl (.sl (.int .i64)) s.2.2.2]), (11, .int .i64 state), (12, .int .i64 a), (13, .int .i64 b)] [] ?_
 obtain ⟨v0, hv1, h⟩ := Option.bind_eq_some_iff.1 h
 refine zC [] [] (hc_spec_told s state a b hv1) [(14, .tup [.bool v0.1, .int .i64 v0.2])] [] ?_
 refine zB [(8, .bool v0.1), (9, .int .i64 v0.2)] [] ?_
 refine AW.ret ?_
 obtain rfl := Option.some.inj h
 exact zR [] [] []

theorem hc_spec_Reads (s : Int × Int × (List (List Int)) × (List (List Int))) (op0 : Int) {r : Bool × Int} (h : spec_Reads s op0 = some r) : HC Try.prog 48 [] [.agg [.int .i64 s.1, .int .i64 s.2.1, .sl (.sl (.int .i64)) s.2.2.1, .sl (.sl (.int .i64)) s.2.2.2], .int .i64 op0] [] (.tup [.bool r.1, .int .i64 r.2]) := by
 unfold spec_Reads at h
 refine zH Try.func48 [.cell 4 4, .cell 5 28] 37 ?_
 refine zo ?_
 refine zB [(2, .bp 2 0), (3, .bp 3 0), (4, .bp 4 0), (5, .bp 5 0)] [(2, .box 24 [.int .i64 s.1, .int .i64 s.2.1, .sl (.sl (.int .i64)) s.2.2.1, .sl (.sl (.int .i64)) s.2.2.2]), (3, .box 3 [.int .i64 op0]), (4, .box 4 [.bool false]), (5, .box 28 [.int .i64 0])] ?_
 refine zo ?_
 refine zS 1 [(3, .bp 3 0), (4, .bp 4 0), (5, .bp 5 0), (10, .agg [.int .i64 s.1, .int .i64 s.2.1, .sl (.sl (.int .i64)) s.2.2.1, .sl (.sl (.int .i64)) s.2.2.2])] [(3, .box 3 [.int .i64 op0]), (4, .box 4 [.bool false]), (5, .box 28 [.int .i64 0])] ?_
 obtain ⟨v0, hv1, h⟩ := Option.bind_eq_some_iff.1 h
 refine zC [] [] (hc_spec_checked s [] hv1) [(3, .bp 3 0), (4, .bp 4 0), (5, .bp 5 0), (11, .tup [.agg [.int .i64 v0.1, .int .i64 v0.2.1, .sl (.sl (.int .i64)) v0.2.2.1, .sl (.sl (.int .i64)) v0.2.2.2.1], .int .i64 v0.2.2.2.2])] [(3, .box 3 [.int .i64 op0]), (4, .box 4 [.bool false]), (5, .box 28 [.int .i64 0])] ?_
 refine zS 5 [(3, .bp 3 0), (4, .bp 4 0), (5, .bp 5 0), (6, .bp 6 0), (13, .int .i64 v0.2.2.2.2)] [(3, .box 3 [.int .i64 op0]), (4, .box 4 [.bool false]), (5, .box 28 [.int .i64 0]), (6, .box 60 [.int .i64 v0.1, .int .i64 v0.2.1, .sl (.sl (.int .i64)) v0.2.2.1, .sl (.sl (.int .i64)) v0.2.2.2.1])] ?_
 refine zB [(3, .bp 3 0), (4, .bp 4 0), (5, .bp 5 0), (6, .bp 6 0), (7, .int .i64 v0.2.2.2.2)] [(3, .box 3 [.int .i64 op0]), (4, .box 4 [.bool false]), (5, .box 28 [.int .i64 0]), (6, .box 60 [.int .i64 v0.1, .int .i64 v0.2.1, .sl (.sl (.int .i64)) v0.2.2.1, .sl (.sl (.int .i64)) v0.2.2.2.1])] ?_
 refine AW.seq ?_
 refine zo ?_
 refine zB [(3, .bp 3 0), (4, .bp 4 0), (5, .bp 5 0), (6, .bp 6 0), (7, .int .i64 v0.2.2.2.2), (15, .bool (!(decide (v0.2.2.2.2 = 0))))] [(3, .box 3 [.int .i64 op0]), (4, .box 4 [.bool false]), (5, .box 28 [.int .i64 0]), (6, .box 60 [.int .i64 v0.1, .int .i64 v0.2.1, .sl (.sl (.int .i64)) v0.2.2.1, .sl (.sl (.int .i64)) v0.2.2.2.1])] ?_
 refine zQ h (fun hb2 h => ?_) (fun hb2 h => ?_)
 ·refine zo ?_
  refine zB [(4, .bp 4 0), (5, .bp 5 0)] [(4, .box 4 [.bool false]), (5, .box 28 [.int .i64 v0.2.2.2.2])] ?_
  refine zr ?_
  obtain rfl := Option.some.inj h
  exact zR [] [] []
 ·refine zk ?_
  refine AW.seq ?_
  refine zo ?_
  refine zS 2 [(3, .bp 3 0), (4, .bp 4 0), (5, .bp 5 0), (6, .bp 6 0), (17, .agg [.int .i64 v0.1, .int .i64 v0.2.1, .sl (.sl (.int .i64)) v0.2.2.1, .sl (.sl (.int .i64)) v0.2.2.2.1]), (18, .int .i64 op0)] [(3, .box 3 [.int .i64 op0]), (4, .box 4 [.bool false]), (5, .box 28 [.int .i64 0]), (6, .box 60 [.int .i64 v0.1, .int .i64 v0.2.1, .sl (.sl (.int .i64)) v0.2.2.1, .sl (.sl (.int .i64)) v0.2.2.2.1])] ?_
  obtain ⟨v0_2, hv3, h⟩ := Option.bind_eq_some_iff.1 h
  refine zC [] [] (hc_spec_machine_isCall (v0.1, v0.2.1, v0.2.2.1, v0.2.2.2.1) op0 hv3) [(3, .bp 3 0), (4, .bp 4 0), (5, .bp 5 0), (6, .bp 6 0), (19, .bool v0_2)] [(3, .box 3 [.int .i64 op0]), (4, .box 4 [.bool false]), (5, .box 28 [.int .i64 0]), (6, .box 60 [.int .i64 v0.1, .int .i64 v0.2.1, .sl (.sl (.int .i64)) v0.2.2.1, .sl (.sl (.int .i64)) v0.2.2.2.1])] ?_
  refine zB [(3, .bp 3 0), (4, .bp 4 0), (5, .bp 5 0), (6, .bp 6 0), (20, .bool (!v0_2))] [(3, .box 3 [.int .i64 op0]), (4, .box 4 [.bool false]), (5, .box 28 [.int .i64 0]), (6, .box 60 [.int .i64 v0.1, .int .i64 v0.2.1, .sl (.sl (.int .i64)) v0.2.2.1, .sl (.sl (.int .i64)) v0.2.2.2.1])] ?_
  refine zQ h (fun hb4 h => ?_) (fun hb4 h => ?_)
  ·refine zo ?_
   refine zB [(4, .bp 4 0), (5, .bp 5 0)] [(4, .box 4 [.bool false]), (5, .box 28 [.int .i64 2])] ?_
   refine zr ?_
   obtain rfl := Option.some.inj h
   exact zR [] [] []
  ·refine zk ?_
   refine AW.have1 (fun _ : Unit => spec_Reads_k1 = some r) (fun _ => ⟨fr [(4, .bp 4 0), (5, .bp 5 0)], hpGet [(4, .box 4 [.bool false]), (5, .box 28 [.int .i64 0])], gt⟩) (fun _ h => ?_) (fun hk_spec_Reads_k1 => ?_)
   ·as_aux_lemma =>
     unfold spec_Reads_k1 at h
     refine zo ?_
     refine zB [(4, .bp 4 0), (5, .bp 5 0)] [(4, .box 4 [.bool true]), (5, .box 28 [.int .i64 0])] ?_
     refine AW.ret ?_
     obtain rfl := Option.some.inj h
     exact zR [] [] []
   ·refine AW.seq ?_
    refine zo ?_
    refine zS 1 [(3, .bp 3 0), (4, .bp 4 0), (5, .bp 5 0), (6, .bp 6 0), (21, .agg [.int .i64 v0.1, .int .i64 v0.2.1, .sl (.sl (.int .i64)) v0.2.2.1, .sl (.sl (.int .i64)) v0.2.2.2.1])] [(3, .box 3 [.int .i64 op0]), (4, .box 4 [.bool false]), (5, .box 28 [.int .i64 0]), (6, .box 60 [.int .i64 v0.1, .int .i64 v0.2.1, .sl (.sl (.int .i64)) v0.2.2.1, .sl (.sl (.int .i64)) v0.2.2.2.1])] ?_
    obtain ⟨v0_3, hv5, h⟩ := Option.bind_eq_some_iff.1 h
    refine zC [] [] (hc_spec_machine_ways (v0.1, v0.2.1, v0.2.2.1, v0.2.2.2.1) hv5) [(3, .bp 3 0), (4, .bp 4 0), (5, .bp 5 0), (6, .bp 6 0), (22, .fn (.func 98) [] [.bp 32000 0])] [(3, .box 3 [.int .i64 op0]), (4, .box 4 [.bool false]), (5, .box 28 [.int .i64 0]), (6, .box 60 [.int .i64 v0.1, .int .i64 v0.2.1, .sl (.sl (.int .i64)) v0.2.2.1, .sl (.sl (.int .i64)) v0.2.2.2.1]), (32000, .box 60 [.int .i64 v0.1, .int .i64 v0.2.1, .sl (.sl (.int .i64)) v0.2.2.1, .sl (.sl (.int .i64)) v0.2.2.2.1])] ?_
    refine zB [(3, .bp 3 0), (4, .bp 4 0), (5, .bp 5 0), (6, .bp 6 0), (22, .fn (.func 98) [] [.bp 32000 0])] [(3, .box 3 [.int .i64 op0]), (4, .box 4 [.bool false]), (5, .box 28 [.int .i64 0]), (6, .box 60 [.int .i64 v0.1, .int .i64 v0.2.1, .sl (.sl (.int .i64)) v0.2.2.1, .sl (.sl (.int .i64)) v0.2.2.2.1]), (32000, .box 60 [.int .i64 v0.1, .int .i64 v0.2.1, .sl (.sl (.int .i64)) v0.2.2.1, .sl (.sl (.int .i64)) v0.2.2.2.1])] ?_
    refine AW.block ?_
    obtain ⟨x6, hx7, h⟩ := Option.bind_eq_some_iff.1 h
    refine AW.weaken (s' := ⟨fr [(3, .bp 3 0), (4, .bp 4 0), (5, .bp 5 0), (6, .bp 6 0), (22, .fn (.func 98) [] [.bp 32000 0])], hpGet ([(32000, .box 60 [.int .i64 v0.1, .int .i64 v0.2.1, .sl (.sl (.int .i64)) v0.2.2.1, .sl (.sl (.int .i64)) v0.2.2.2.1])] ++ [(3, .box 3 [.int .i64 op0]), (4, .box 4 [.bool false]), (5, .box 28 [.int .i64 0]), (6, .box 60 [.int .i64 v0.1, .int .i64 v0.2.1, .sl (.sl (.int .i64)) v0.2.2.1, .sl (.sl (.int .i64)) v0.2.2.2.1])]), gt⟩) (zL [] [] []) ?_
    refine AW.rangeF (R := Unit) (l0 := [(3, .bp 3 0), (4, .bp 4 0), (5, .bp 5 0), (6, .bp 6 0)]) (hI := [(32000, .box 60 [.int .i64 v0.1, .int .i64 v0.2.1, .sl (.sl (.int .i64)) v0.2.2.1, .sl (.sl (.int .i64)) v0.2.2.2.1])]) (h0 := fun (st1 : Unit) => [(3, .box 3 [.int .i64 op0]), (4, .box 4 [.bool false]), (5, .box 28 [.int .i64 0]), (6, .box 60 [.int .i64 v0.1, .int .i64 v0.2.1, .sl (.sl (.int .i64)) v0.2.2.1, .sl (.sl (.int .i64)) v0.2.2.2.1])]) (gg := fun (st1 : Unit) => gt) (hx0 := (fun (_ : Unit) => [(3, .box 3 [.int .i64 op0]), (4, .box 4 [.bool false]), (5, .box 28 [.int .i64 0]), (6, .box 60 [.int .i64 v0.1, .int .i64 v0.2.1, .sl (.sl (.int .i64)) v0.2.2.1, .sl (.sl (.int .i64)) v0.2.2.2.1])])) (gx := (fun (_ : Unit) => gt)) (ex := (fun (_ : Unit) => Exit.ret)) () [(32000, 1000)] [(1000, 32000)] [(3, 1900), (4, 1901), (5, 1902), (6, 1903)] [(1900, 3), (1901, 4), (1902, 5), (1903, 6)] (by decide) rfl (by first | exact (ic_spec_machine_ways_1 (v0.1, v0.2.1, v0.2.2.1, v0.2.2.2.1) (spec_Reads_y1 op0 v0) () hx7) | simpa only [go_sem] using (ic_spec_machine_ways_1 (v0.1, v0.2.1, v0.2.2.1, v0.2.2.2.1) (spec_Reads_y1 op0 v0) () hx7)) (by (simp only [go_sem, hb2, hb4]) <;> (with_reducible and_intros) <;> first | assumption | rfl | omega | (unfold maxLen; omega)) rfl rfl rfl (fun _ => rfl) rfl (fun _ => rfl) rfl (fun _ => rfl) (fun _ => rfl) (fun _ => rfl) (fun _ => rfl) rfl (fun _ _ => by first | rfl | (exact (hΓ _).trans (hΓ _).symm) | (exact (hΓx _).trans (hΓ _).symm)) (fun _ _ => by first | rfl | (exact (hΓ _).trans (hΓ _).symm) | (exact (hΓx _).trans (hΓ _).symm)) ?_ ?_
    ·intro lpy1 y1 st1 x8 h
     unfold spec_Reads_y1 at h
     refine zV [(3, .bp 1900 0), (4, .bp 1901 0), (5, .bp 1902 0), (6, .bp 1903 0), (23, .int .i64 y1.1), (24, .sl (.int .i64) y1.2)] [(1900, .box 3 [.int .i64 op0]), (1901, .box 4 [.bool false]), (1902, .box 28 [.int .i64 0]), (1903, .box 60 [.int .i64 v0.1, .int .i64 v0.2.1, .sl (.sl (.int .i64)) v0.2.2.1, .sl (.sl (.int .i64)) v0.2.2.2.1])] gt ?_
     refine AW.ops ?_
     refine zA [(3, .bp 1900 0), (4, .bp 1901 0), (5, .bp 1902 0), (6, .bp 1903 0), (8, .int .i64 y1.1)] [(1900, .box 3 [.int .i64 op0]), (1901, .box 4 [.bool false]), (1902, .box 28 [.int .i64 0]), (1903, .box 60 [.int .i64 v0.1, .int .i64 v0.2.1, .sl (.sl (.int .i64)) v0.2.2.1, .sl (.sl (.int .i64)) v0.2.2.2.1])] ?_
     refine And.intro rfl ?_
     refine AW.block ?_
     refine AW.seq ?_
     refine AW.draw tab_ok mixed_ok [] [] (by decide) (lex_fast (by kernel_rfl)) ?_
     as_aux_lemma =>
      obtain ⟨c10, h⟩ := ck_some.1 h
      obtain ⟨c11, h⟩ := ck_some.1 h
      refine adops_cut 6 (fun K' hK9 => ?_)
      try dsimp only [List.drop_succ_cons, List.drop_zero, List.take_succ_cons, List.take_zero]
      simp only [go_sem, hb2, hb4]
      repeat with_reducible refine zN ?_
      refine hK9 _ ?_
      as_aux_lemma =>
       obtain ⟨c13, h⟩ := ck_some.1 h
       obtain ⟨c14, h⟩ := ck_some.1 h
       refine adops_cut 4 (fun K' hK12 => ?_)
       try dsimp only [List.drop_succ_cons, List.drop_zero, List.take_succ_cons, List.take_zero]
       simp only [go_sem, hb2, hb4]
       repeat with_reducible refine zN ?_
       refine hK12 _ ?_
       as_aux_lemma =>
        obtain ⟨v0_4, hv15, h⟩ := Option.bind_eq_some_iff.1 h
        refine adops.call (by first | trivial | rfl) rfl rfl rfl (fun _ h => h) [] [] (hc_spec_machine_same (v0.1, v0.2.1, v0.2.2.1, v0.2.2.2.1) y1.1 ((v0.2.2.1.getD y1.1.toNat []).getD op0.toNat 0) hv15) rfl (by (simp only [go_sem, hb2, hb4]) <;> (with_reducible and_intros) <;> first | assumption | rfl | omega | (unfold maxLen; omega)) (by (simp only [go_sem, hb2, hb4]) <;> (with_reducible and_intros) <;> first | assumption | rfl | omega | (unfold maxLen; omega)) rfl ?_
        refine adops_cut 1 (fun K' hK16 => ?_)
        try dsimp only [List.drop_succ_cons, List.drop_zero, List.take_succ_cons, List.take_zero]
        simp only [go_sem, hb2, hb4]
        repeat with_reducible refine zN ?_
        refine hK16 _ ?_
        refine adops_nil ?_
        refine athen_n ?_
        refine zV [(3, .bp 1900 0), (4, .bp 1901 0), (5, .bp 1902 0), (6, .bp 1903 0), (36, .bool (!v0_4))] [(1900, .box 3 [.int .i64 op0]), (1901, .box 4 [.bool false]), (1902, .box 28 [.int .i64 0]), (1903, .box 60 [.int .i64 v0.1, .int .i64 v0.2.1, .sl (.sl (.int .i64)) v0.2.2.1, .sl (.sl (.int .i64)) v0.2.2.2.1])] gt ?_
        as_aux_lemma =>
         refine zQ h (fun hb17 h => ?_) (fun hb17 h => ?_)
         ·refine zo ?_
          refine zB [(3, .bp 1900 0), (4, .bp 1901 0), (5, .bp 1902 0), (6, .bp 1903 0)] [(1900, .box 3 [.int .i64 op0]), (1901, .box 4 [.bool false]), (1902, .box 28 [.int .i64 0]), (1903, .box 60 [.int .i64 v0.1, .int .i64 v0.2.1, .sl (.sl (.int .i64)) v0.2.2.1, .sl (.sl (.int .i64)) v0.2.2.2.1])] ?_
          refine AW.ret ?_
          refine ablock_r ?_
          obtain rfl := Option.some.inj h
          exact rpost_ret rfl rfl [] [] [] rfl (by (simp only [go_sem, hb2, hb4, hb17]) <;> (with_reducible and_intros) <;> first | assumption | rfl | omega | (unfold maxLen; omega))
         ·refine zm ?_
          obtain rfl := Option.some.inj h
          exact rpost_next rfl [] [] [] rfl (by (simp only [go_sem, hb2, hb4, hb17]) <;> (with_reducible and_intros) <;> first | assumption | rfl | omega | (unfold maxLen; omega))
    ·cases x6 with
     | inl st1_2 =>
      try simp only at h
      refine ablock_n ?_
      refine athen_n ?_
      exact AW.weaken (zL [] [] []) (hk_spec_Reads_k1 () h)
     | inr _ =>
      try simp only at h
      refine ablock_r ?_
      refine athen_r ?_
      obtain rfl := Option.some.inj h
      exact zR [] [] []

theorem hc_spec_machine_overwrites (m : Int × Int × (List (List Int)) × (List (List Int))) (state : Int) (a : Int) (b : Int) {r : Bool} (h : spec_machine_overwrites m state a b = some r) : HC Try.prog 88 [] [.agg [.int .i64 m.1, .int .i64 m.2.1, .sl (.sl (.int .i64)) m.2.2.1, .sl (.sl (.int .i64)) m.2.2.2], .int .i64 state, .int .i64 a, .int .i64 b] [] (.bool r) := by
 unfold spec_machine_overwrites at h
 refine zH Try.func88 [.tmp 8] 43 ?_
 refine zo ?_
 refine zB [(1, .int .i64 state), (2, .int .i64 a), (3, .int .i64 b), (4, .bp 4 0)] [(4, .box 60 [.int .i64 m.1, .int .i64 m.2.1, .sl (.sl (.int .i64)) m.2.2.1, .sl (.sl (.int .i64)) m.2.2.2])] ?_
 refine zo ?_
 refine zS 5 [(1, .int .i64 state), (3, .int .i64 b), (4, .bp 4 0), (14, .agg [.int .i64 m.1, .int .i64 m.2.1, .sl (.sl (.int .i64)) m.2.2.1, .sl (.sl (.int .i64)) m.2.2.2]), (15, .int .i64 state), (18, .own 18)] [(4, .box 60 [.int .i64 m.1, .int .i64 m.2.1, .sl (.sl (.int .i64)) m.2.2.1, .sl (.sl (.int .i64)) m.2.2.2]), (18, .arr 3 (.int .i64) [a, b])] ?_
 obtain ⟨v0, hv1, h⟩ := Option.bind_eq_some_iff.1 h
 refine zC [18] [] (hc_spec_machine_run m state [a, b] hv1) [(1, .int .i64 state), (3, .int .i64 b), (4, .bp 4 0), (19, .tup [.own 29000, .int .i64 v0.2])] [(4, .box 60 [.int .i64 m.1, .int .i64 m.2.1, .sl (.sl (.int .i64)) m.2.2.1, .sl (.sl (.int .i64)) m.2.2.2]), (29000, .arr 3 (.int .i64) v0.1)] ?_
 refine zB [(1, .int .i64 state), (3, .int .i64 b), (4, .bp 4 0), (9, .own 29000), (10, .int .i64 v0.2)] [(4, .box 60 [.int .i64 m.1, .int .i64 m.2.1, .sl (.sl (.int .i64)) m.2.2.1, .sl (.sl (.int .i64)) m.2.2.2]), (29000, .arr 3 (.int .i64) v0.1)] ?_
 refine zo ?_
 refine zS 4 [(4, .bp 4 0), (9, .own 29000), (10, .int .i64 v0.2), (23, .agg [.int .i64 m.1, .int .i64 m.2.1, .sl (.sl (.int .i64)) m.2.2.1, .sl (.sl (.int .i64)) m.2.2.2]), (24, .int .i64 state), (26, .own 26)] [(4, .box 60 [.int .i64 m.1, .int .i64 m.2.1, .sl (.sl (.int .i64)) m.2.2.1, .sl (.sl (.int .i64)) m.2.2.2]), (26, .arr 3 (.int .i64) [b]), (29000, .arr 3 (.int .i64) v0.1)] ?_
 obtain ⟨v0_2, hv2, h⟩ := Option.bind_eq_some_iff.1 h
 refine zC [26] [] (hc_spec_machine_run m state [b] hv2) [(4, .bp 4 0), (9, .own 29000), (10, .int .i64 v0.2), (27, .tup [.own 37000, .int .i64 v0_2.2])] [(4, .box 60 [.int .i64 m.1, .int .i64 m.2.1, .sl (.sl (.int .i64)) m.2.2.1, .sl (.sl (.int .i64)) m.2.2.2]), (29000, .arr 3 (.int .i64) v0.1), (37000, .arr 3 (.int .i64) v0_2.1)] ?_
 refine zB [(4, .bp 4 0), (9, .own 29000), (10, .int .i64 v0.2), (11, .own 37000), (12, .int .i64 v0_2.2)] [(4, .box 60 [.int .i64 m.1, .int .i64 m.2.1, .sl (.sl (.int .i64)) m.2.2.1, .sl (.sl (.int .i64)) m.2.2.2]), (29000, .arr 3 (.int .i64) v0.1), (37000, .arr 3 (.int .i64) v0_2.1)] ?_
 refine AW.seq ?_
 refine AW.draw tab_ok mixed_ok [] [] (by decide) (lex_fast (by kernel_rfl)) ?_
 as_aux_lemma =>
  obtain ⟨c4, h⟩ := ck_some.1 h
  obtain ⟨c5, h⟩ := ck_some.1 h
  refine adops_cut 6 (fun K' hK3 => ?_)
  try dsimp only [List.drop_succ_cons, List.drop_zero, List.take_succ_cons, List.take_zero]
  simp only [go_sem]
  repeat with_reducible refine zN ?_
  refine hK3 _ ?_
  as_aux_lemma =>
   refine adops_cut 2 (fun K' hK6 => ?_)
   try dsimp only [List.drop_succ_cons, List.drop_zero, List.take_succ_cons, List.take_zero]
   simp only [go_sem]
   repeat with_reducible refine zN ?_
   refine hK6 _ ?_
   as_aux_lemma =>
    rcases zI h with ⟨hb7, h⟩ | ⟨hb7, h⟩
    ·simp only [hb7]
     as_aux_lemma =>
      refine adops_cut 3 (fun K' hK8 => ?_)
      try dsimp only [List.drop_succ_cons, List.drop_zero, List.take_succ_cons, List.take_zero]
      simp only [go_sem, hb7]
      repeat with_reducible refine zN ?_
      refine hK8 _ ?_
      as_aux_lemma =>
       obtain ⟨v0_3, hv9, h⟩ := Option.bind_eq_some_iff.1 h
       refine adops.call (by first | trivial | rfl) rfl rfl rfl (fun _ h => ⟨fun _ => h, fun hn => absurd rfl hn⟩) [] [] (hc_spec_machine_same m v0.2 v0_2.2 hv9) rfl (by (simp only [go_sem, hb7]) <;> (with_reducible and_intros) <;> first | assumption | rfl | omega | (unfold maxLen; omega)) (by (simp only [go_sem, hb7]) <;> (with_reducible and_intros) <;> first | assumption | rfl | omega | (unfold maxLen; omega)) rfl ?_
       refine adops_cut 2 (fun K' hK10 => ?_)
       try dsimp only [List.drop_succ_cons, List.drop_zero, List.take_succ_cons, List.take_zero]
       simp only [go_sem, hb7]
       repeat with_reducible refine zN ?_
       refine hK10 _ ?_
       refine adops_nil ?_
       refine athen_n ?_
       refine zV [(8, .bool v0_3)] [] gt ?_
       as_aux_lemma =>
        refine AW.ret ?_
        obtain rfl := Option.some.inj h
        exact zR [] [] []
    ·simp only [hb7]
     as_aux_lemma =>
      refine adops_cut 4 (fun K' hK11 => ?_)
      try dsimp only [List.drop_succ_cons, List.drop_zero, List.take_succ_cons, List.take_zero]
      simp only [go_sem, hb7]
      repeat with_reducible refine zN ?_
      refine hK11 _ ?_
      as_aux_lemma =>
       refine adops_cut 2 (fun K' hK12 => ?_)
       try dsimp only [List.drop_succ_cons, List.drop_zero, List.take_succ_cons, List.take_zero]
       simp only [go_sem, hb7]
       repeat with_reducible refine zN ?_
       refine hK12 _ ?_
       refine adops_nil ?_
       refine athen_n ?_
       refine zV [(8, .bool false)] [] gt ?_
       as_aux_lemma =>
        refine AW.ret ?_
        obtain rfl := Option.some.inj h
        exact zR [] [] []

theorem hc_spec_machine_meddle (m : Int × Int × (List (List Int)) × (List (List Int))) (state : Int) (a : Int) (b : Int) {r : Bool} (h : spec_machine_meddle m state a b = some r) : HC Try.prog 91 [] [.agg [.int .i64 m.1, .int .i64 m.2.1, .sl (.sl (.int .i64)) m.2.2.1, .sl (.sl (.int .i64)) m.2.2.2], .int .i64 state, .int .i64 a, .int .i64 b] [] (.bool r) := by
 unfold spec_machine_meddle at h
 refine zH Try.func91 [.tmp 8] 31 ?_
 refine zo ?_
 refine zB [(1, .int .i64 state), (2, .int .i64 a), (3, .int .i64 b), (4, .bp 4 0)] [(4, .box 60 [.int .i64 m.1, .int .i64 m.2.1, .sl (.sl (.int .i64)) m.2.2.1, .sl (.sl (.int .i64)) m.2.2.2])] ?_
 refine zo ?_
 refine zS 4 [(1, .int .i64 state), (2, .int .i64 a), (3, .int .i64 b), (4, .bp 4 0), (9, .agg [.int .i64 m.1, .int .i64 m.2.1, .sl (.sl (.int .i64)) m.2.2.1, .sl (.sl (.int .i64)) m.2.2.2]), (10, .int .i64 state), (11, .int .i64 a), (12, .int .i64 b)] [(4, .box 60 [.int .i64 m.1, .int .i64 m.2.1, .sl (.sl (.int .i64)) m.2.2.1, .sl (.sl (.int .i64)) m.2.2.2])] ?_
 obtain ⟨v0, hv1, h⟩ := Option.bind_eq_some_iff.1 h
 refine zC [] [] (hc_spec_machine_commute m state a b hv1) [(1, .int .i64 state), (2, .int .i64 a), (3, .int .i64 b), (4, .bp 4 0), (13, .bool v0)] [(4, .box 60 [.int .i64 m.1, .int .i64 m.2.1, .sl (.sl (.int .i64)) m.2.2.1, .sl (.sl (.int .i64)) m.2.2.2])] ?_
 refine zS 2 [(1, .int .i64 state), (2, .int .i64 a), (3, .int .i64 b), (4, .bp 4 0), (15, .bool (!v0))] [(4, .box 60 [.int .i64 m.1, .int .i64 m.2.1, .sl (.sl (.int .i64)) m.2.2.1, .sl (.sl (.int .i64)) m.2.2.2])] ?_
 rcases zI h with ⟨hb2, h⟩ | ⟨hb2, h⟩
 ·refine zS 4 [(1, .int .i64 state), (2, .int .i64 a), (3, .int .i64 b), (4, .bp 4 0), (15, .bool true), (16, .agg [.int .i64 m.1, .int .i64 m.2.1, .sl (.sl (.int .i64)) m.2.2.1, .sl (.sl (.int .i64)) m.2.2.2]), (17, .int .i64 state), (18, .int .i64 a), (19, .int .i64 b)] [(4, .box 60 [.int .i64 m.1, .int .i64 m.2.1, .sl (.sl (.int .i64)) m.2.2.1, .sl (.sl (.int .i64)) m.2.2.2])] ?_
  obtain ⟨v0_2, hv3, h⟩ := Option.bind_eq_some_iff.1 h
  refine zG [] [] (hc_spec_machine_overwrites m state a b hv3) [(1, .int .i64 state), (2, .int .i64 a), (3, .int .i64 b), (4, .bp 4 0), (15, .bool true), (20, .bool v0_2)] [(4, .box 60 [.int .i64 m.1, .int .i64 m.2.1, .sl (.sl (.int .i64)) m.2.2.1, .sl (.sl (.int .i64)) m.2.2.2])] ?_
  refine zS 3 [(1, .int .i64 state), (2, .int .i64 a), (3, .int .i64 b), (4, .bp 4 0), (23, .bool (!v0_2))] [(4, .box 60 [.int .i64 m.1, .int .i64 m.2.1, .sl (.sl (.int .i64)) m.2.2.1, .sl (.sl (.int .i64)) m.2.2.2])] ?_
  rcases zI h with ⟨hb4, h⟩ | ⟨hb4, h⟩
  ·refine zS 4 [(23, .bool true), (24, .agg [.int .i64 m.1, .int .i64 m.2.1, .sl (.sl (.int .i64)) m.2.2.1, .sl (.sl (.int .i64)) m.2.2.2]), (25, .int .i64 state), (26, .int .i64 b), (27, .int .i64 a)] [] ?_
   obtain ⟨v0_3, hv5, h⟩ := Option.bind_eq_some_iff.1 h
   refine zG [] [] (hc_spec_machine_overwrites m state b a hv5) [(23, .bool true), (28, .bool v0_3)] [] ?_
   refine zB [(8, .bool (!v0_3))] [] ?_
   refine AW.ret ?_
   obtain rfl := Option.some.inj h
   exact zR [] [] []
  ·refine zS 4 [(23, .bool false), (24, .cv (undef)), (25, .cv (undef)), (26, .cv (undef)), (27, .cv (undef))] [] ?_
   refine zB [(8, .bool false)] [] ?_
   refine AW.ret ?_
   obtain rfl := Option.some.inj h
   exact zR [] [] []
 ·refine zS 4 [(1, .int .i64 state), (2, .int .i64 a), (3, .int .i64 b), (4, .bp 4 0), (15, .bool false), (16, .cv (undef)), (17, .cv (undef)), (18, .cv (undef)), (19, .cv (undef))] [(4, .box 60 [.int .i64 m.1, .int .i64 m.2.1, .sl (.sl (.int .i64)) m.2.2.1, .sl (.sl (.int .i64)) m.2.2.2])] ?_
  refine zS 5 [(1, .int .i64 state), (2, .int .i64 a), (3, .int .i64 b), (23, .bool false), (24, .cv (undef))] [] ?_
  refine zS 4 [(23, .bool false), (28, .cv (undef))] [] ?_
  refine zB [(8, .bool false)] [] ?_
  refine AW.ret ?_
  obtain rfl := Option.some.inj h
  exact zR [] [] []

end Go.Proofs.Ytcgflignbhmoaaa
