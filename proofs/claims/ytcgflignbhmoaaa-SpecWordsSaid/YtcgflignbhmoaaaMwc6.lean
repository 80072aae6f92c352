/-
  Made by wip/tool/dc.py out of the print of the program: contracts.
-/
import Derived.Test.YtcgflignbhmoaaaQp
import Derived.Test.YtcgflignbhmoaaaShs
import Derived.Test.YtcgflignbhmoaaaMwc2
import Derived.Test.YtcgflignbhmoaaaMwc5
namespace Go.Proofs.Ytcgflignbhmoaaa
open Go.RowKit

set_option linter.unusedSimpArgs false
set_option linter.unusedVariables false
set_option linter.constructorNameAsVariable false

set_option maxRecDepth 100000
set_option maxHeartbeats 2000000

theorem hc_spec_machine_classes (m : Int × Int × (List (List Int)) × (List (List Int))) {r : (List Int)} (h : spec_machine_classes m = some r) : HC Try.prog 71 [] [.agg [.int .i64 m.1, .int .i64 m.2.1, .sl (.sl (.int .i64)) m.2.2.1, .sl (.sl (.int .i64)) m.2.2.2]] [(2000, .arr 3 (.int .i64) r)] (.own 2000) := by
 unfold spec_machine_classes at h
 refine zH Try.func71 [.tmp 2] 29 ?_
 refine zo ?_
 refine zB [(1, .bp 1 0)] [(1, .box 60 [.int .i64 m.1, .int .i64 m.2.1, .sl (.sl (.int .i64)) m.2.2.1, .sl (.sl (.int .i64)) m.2.2.2])] ?_
 refine zo ?_
 obtain ⟨c1, h⟩ := ck_some.1 h
 obtain ⟨c2, h⟩ := ck_some.1 h
 refine zB [(1, .bp 1 0), (3, .own 7)] [(1, .box 60 [.int .i64 m.1, .int .i64 m.2.1, .sl (.sl (.int .i64)) m.2.2.1, .sl (.sl (.int .i64)) m.2.2.2]), (7, .arr 3 (.int .i64) (List.replicate m.1.toNat (0 : Int)))] ?_
 refine AW.have1 (fun b2_2 : (List Int) => spec_machine_classes_k1 b2_2 = some r) (fun b2_2 => ⟨fr [(3, .own 7)], hpGet [(7, .arr 3 (.int .i64) b2_2)], gt⟩) (fun b2_2 h => ?_) (fun hk_spec_machine_classes_k1 => ?_)
 ·as_aux_lemma =>
   unfold spec_machine_classes_k1 at h
   refine zo ?_
   refine zB [(2, .own 7)] [(7, .arr 3 (.int .i64) b2_2)] ?_
   refine AW.ret ?_
   obtain rfl := Option.some.inj h
   exact zR [] [] [(2000, 7)]
 ·refine AW.seq ?_
  refine zo ?_
  refine zB [(1, .bp 1 0), (3, .own 7), (9, .int .i64 ((List.replicate m.1.toNat (0 : Int)).length : Int)), (10, .int .i64 0)] [(1, .box 60 [.int .i64 m.1, .int .i64 m.2.1, .sl (.sl (.int .i64)) m.2.2.1, .sl (.sl (.int .i64)) m.2.2.2]), (7, .arr 3 (.int .i64) (List.replicate m.1.toNat (0 : Int)))] ?_
  refine AW.block ?_
  obtain ⟨rv7, hw3, ho4⟩ := Option.bind_eq_some_iff.1 h
  refine AW.loopO (spec_machine_classes_b1 m) (fun st1 => ⟨fr [(1, .bp 1 0), (3, .own 7), (9, .int .i64 ((List.replicate m.1.toNat (0 : Int)).length : Int)), (10, .int .i64 st1.2)], hpGet [(1, .box 60 [.int .i64 m.1, .int .i64 m.2.1, .sl (.sl (.int .i64)) m.2.2.1, .sl (.sl (.int .i64)) m.2.2.2]), (7, .arr 3 (.int .i64) st1.1)], gt⟩) ((List.replicate m.1.toNat (0 : Int)), 0) hw3 (zL [] [] []) ?_
  as_aux_lemma =>
   intro st1 x6 h hd5
   unfold spec_machine_classes_b1 at h
   refine zo ?_
   refine zB [(1, .bp 1 0), (3, .own 7), (9, .int .i64 ((List.replicate m.1.toNat (0 : Int)).length : Int)), (10, .int .i64 st1.2), (11, .bool (decide (st1.2 < ((List.replicate m.1.toNat (0 : Int)).length : Int))))] [(1, .box 60 [.int .i64 m.1, .int .i64 m.2.1, .sl (.sl (.int .i64)) m.2.2.1, .sl (.sl (.int .i64)) m.2.2.2]), (7, .arr 3 (.int .i64) st1.1)] ?_
   refine AW.seq ?_
   refine zQ h (fun hb8 h => ?_) (fun hb8 h => ?_)
   ·refine zk ?_
    refine AW.have1 (fun b2 : (List Int) => spec_machine_classes_k2 st1 b2 = some x6) (fun b2 => ⟨fr [(1, .bp 1 0), (3, .own 7), (9, .int .i64 ((List.replicate m.1.toNat (0 : Int)).length : Int)), (10, .int .i64 st1.2)], hpGet [(1, .box 60 [.int .i64 m.1, .int .i64 m.2.1, .sl (.sl (.int .i64)) m.2.2.1, .sl (.sl (.int .i64)) m.2.2.2]), (7, .arr 3 (.int .i64) b2)], gt⟩) (fun b2 h => ?_) (fun hk_spec_machine_classes_k2 => ?_)
    ·as_aux_lemma =>
      unfold spec_machine_classes_k2 at h
      refine AW.ops ?_
      obtain ⟨c9, h⟩ := ck_some.1 h
      refine zA [(1, .bp 1 0), (3, .own 7), (9, .int .i64 ((List.replicate m.1.toNat (0 : Int)).length : Int)), (10, .int .i64 (st1.2 + 1))] [(1, .box 60 [.int .i64 m.1, .int .i64 m.2.1, .sl (.sl (.int .i64)) m.2.2.1, .sl (.sl (.int .i64)) m.2.2.2]), (7, .arr 3 (.int .i64) b2)] ?_
      obtain rfl := Option.some.inj h
      exact ⟨_, rfl, zL [] [] []⟩
    ·refine AW.seq ?_
     refine AW.block ?_
     refine zo ?_
     refine zB [(1, .bp 1 0), (3, .own 7), (4, .int .i64 st1.2), (9, .int .i64 ((List.replicate m.1.toNat (0 : Int)).length : Int)), (10, .int .i64 st1.2)] [(1, .box 60 [.int .i64 m.1, .int .i64 m.2.1, .sl (.sl (.int .i64)) m.2.2.1, .sl (.sl (.int .i64)) m.2.2.2]), (7, .arr 3 (.int .i64) st1.1)] ?_
     refine AW.block ?_
     obtain ⟨rv14, hw10, ho11⟩ := Option.bind_eq_some_iff.1 h
     refine AW.loopO (spec_machine_classes_b2 m st1) (fun st2 => ⟨fr [(1, .bp 1 0), (3, .own 7), (4, .int .i64 st1.2), (9, .int .i64 ((List.replicate m.1.toNat (0 : Int)).length : Int)), (10, .int .i64 st1.2)], hpGet [(1, .box 60 [.int .i64 m.1, .int .i64 m.2.1, .sl (.sl (.int .i64)) m.2.2.1, .sl (.sl (.int .i64)) m.2.2.2]), (7, .arr 3 (.int .i64) st2)], gt⟩) st1.1 hw10 (zL [] [] []) ?_
     as_aux_lemma =>
      intro st2 x13 h hd12
      unfold spec_machine_classes_b2 at h
      refine AW.seq ?_
      refine AW.seq ?_
      refine AW.draw tab_ok mixed_ok [] [] (by decide) (by kernel_rfl) ?_
      as_aux_lemma =>
       obtain ⟨c16, h⟩ := ck_some.1 h
       obtain ⟨c17, h⟩ := ck_some.1 h
       refine adops_cut 6 (fun K' hK15 => ?_)
       try dsimp only [List.drop_succ_cons, List.drop_zero, List.take_succ_cons, List.take_zero]
       simp only [go_sem, hb8]
       repeat with_reducible refine zN ?_
       refine hK15 _ ?_
       as_aux_lemma =>
        obtain ⟨v0, hv18, h⟩ := Option.bind_eq_some_iff.1 h
        refine adops.call (by first | trivial | rfl) rfl rfl rfl (fun _ h => h) [] [] (hc_spec_machine_same m (st2.getD st1.2.toNat 0) st1.2 hv18) rfl (by (simp only [go_sem, hb8]) <;> (with_reducible and_intros) <;> first | assumption | rfl | omega | (unfold maxLen; omega)) (by (simp only [go_sem, hb8]) <;> (with_reducible and_intros) <;> first | assumption | rfl | omega | (unfold maxLen; omega)) rfl ?_
        refine adops_cut 1 (fun K' hK19 => ?_)
        try dsimp only [List.drop_succ_cons, List.drop_zero, List.take_succ_cons, List.take_zero]
        simp only [go_sem, hb8]
        repeat with_reducible refine zN ?_
        refine hK19 _ ?_
        refine adops_nil ?_
        refine athen_n ?_
        refine zV [(1, .bp 1 0), (3, .own 7), (4, .int .i64 st1.2), (9, .int .i64 ((List.replicate m.1.toNat (0 : Int)).length : Int)), (10, .int .i64 st1.2), (20, .bool (!v0))] [(1, .box 60 [.int .i64 m.1, .int .i64 m.2.1, .sl (.sl (.int .i64)) m.2.2.1, .sl (.sl (.int .i64)) m.2.2.2]), (7, .arr 3 (.int .i64) st2)] gt ?_
        as_aux_lemma =>
         refine zQ h (fun hb20 h => ?_) (fun hb20 h => ?_)
         ·refine zk ?_
          refine AW.block ?_
          refine AW.ops ?_
          obtain ⟨c21, h⟩ := ck_some.1 h
          obtain ⟨c22, h⟩ := ck_some.1 h
          obtain ⟨c23, h⟩ := ck_some.1 h
          obtain ⟨c24, h⟩ := ck_some.1 h
          obtain ⟨c25, h⟩ := ck_some.1 h
          refine zA [(1, .bp 1 0), (3, .own 7), (4, .int .i64 st1.2), (9, .int .i64 ((List.replicate m.1.toNat (0 : Int)).length : Int)), (10, .int .i64 st1.2)] [(1, .box 60 [.int .i64 m.1, .int .i64 m.2.1, .sl (.sl (.int .i64)) m.2.2.1, .sl (.sl (.int .i64)) m.2.2.2]), (7, .arr 3 (.int .i64) (st2.set st1.2.toNat ((st2.getD st1.2.toNat 0) + 1)))] ?_
          refine ablock_n ?_
          obtain rfl := Option.some.inj h
          exact ⟨_, rfl, zL [] [] []⟩
         ·refine AW.exit ?_
          refine athen_e ?_
          obtain rfl := Option.some.inj h
          rw [← hd12 _ rfl] at ho11
          have h := ho11
          refine athen_e ?_
          refine ablock_s ?_
          refine ablock_n ?_
          refine athen_n ?_
          exact AW.weaken (zL [] [] []) (hk_spec_machine_classes_k2 _ h)
   ·refine AW.exit ?_
    refine athen_e ?_
    obtain rfl := Option.some.inj h
    rw [← hd5 _ rfl] at ho4
    have h := ho4
    refine athen_e ?_
    refine ablock_s ?_
    refine athen_n ?_
    exact AW.weaken (zL [] [] []) (hk_spec_machine_classes_k1 _ h)

theorem hc_spec_Classes (s : Int × Int × (List (List Int)) × (List (List Int))) {r : (List Int) × Int} (h : spec_Classes s = some r) : HC Try.prog 29 [] [.agg [.int .i64 s.1, .int .i64 s.2.1, .sl (.sl (.int .i64)) s.2.2.1, .sl (.sl (.int .i64)) s.2.2.2]] [(2000, .arr 3 (.int .i64) r.1)] (.tup [.own 2000, .int .i64 r.2]) := by
 unfold spec_Classes at h
 refine zH Try.func29 [.tmp 2, .tmp 3] 16 ?_
 refine zo ?_
 refine zB [(1, .bp 1 0)] [(1, .box 24 [.int .i64 s.1, .int .i64 s.2.1, .sl (.sl (.int .i64)) s.2.2.1, .sl (.sl (.int .i64)) s.2.2.2])] ?_
 refine zo ?_
 refine zS 1 [(7, .agg [.int .i64 s.1, .int .i64 s.2.1, .sl (.sl (.int .i64)) s.2.2.1, .sl (.sl (.int .i64)) s.2.2.2])] [] ?_
 obtain ⟨v0, hv1, h⟩ := Option.bind_eq_some_iff.1 h
 refine zC [] [] (hc_spec_checked s [] hv1) [(8, .tup [.agg [.int .i64 v0.1, .int .i64 v0.2.1, .sl (.sl (.int .i64)) v0.2.2.1, .sl (.sl (.int .i64)) v0.2.2.2.1], .int .i64 v0.2.2.2.2])] [] ?_
 refine zB [(4, .bp 4 0), (5, .int .i64 v0.2.2.2.2)] [(4, .box 60 [.int .i64 v0.1, .int .i64 v0.2.1, .sl (.sl (.int .i64)) v0.2.2.1, .sl (.sl (.int .i64)) v0.2.2.2.1])] ?_
 refine AW.seq ?_
 refine zo ?_
 refine zB [(4, .bp 4 0), (5, .int .i64 v0.2.2.2.2), (12, .bool (!(decide (v0.2.2.2.2 = 0))))] [(4, .box 60 [.int .i64 v0.1, .int .i64 v0.2.1, .sl (.sl (.int .i64)) v0.2.2.1, .sl (.sl (.int .i64)) v0.2.2.2.1])] ?_
 refine zQ h (fun hb2 h => ?_) (fun hb2 h => ?_)
 ·refine zo ?_
  refine zB [(2, .cv (.slice none 0 0)), (3, .int .i64 v0.2.2.2.2)] [] ?_
  refine zr ?_
  obtain rfl := Option.some.inj h
  exact zR [] [2000] []
 ·refine zk ?_
  refine zo ?_
  refine zS 1 [(14, .agg [.int .i64 v0.1, .int .i64 v0.2.1, .sl (.sl (.int .i64)) v0.2.2.1, .sl (.sl (.int .i64)) v0.2.2.2.1])] [] ?_
  obtain ⟨v0_2, hv3, h⟩ := Option.bind_eq_some_iff.1 h
  refine zC [] [] (hc_spec_machine_classes (v0.1, v0.2.1, v0.2.2.1, v0.2.2.2.1) hv3) [(15, .own 25000)] [(25000, .arr 3 (.int .i64) v0_2)] ?_
  refine zB [(2, .own 25000), (3, .int .i64 0)] [(25000, .arr 3 (.int .i64) v0_2)] ?_
  refine AW.ret ?_
  obtain rfl := Option.some.inj h
  exact zR [] [] [(2000, 25000)]

end Go.Proofs.Ytcgflignbhmoaaa
