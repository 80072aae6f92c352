/-
  Made by wip/tool/dc.py out of the print of the program: contracts.
-/
import Derived.Test.YtcgflignbhmoaaaQp
import Derived.Test.YtcgflignbhmoaaaShs
import Derived.Test.YtcgflignbhmoaaaAvd
import Derived.Test.YtcgflignbhmoaaaMgc11
import Derived.Test.YtcgflignbhmoaaaMgc12
import Derived.Test.YtcgflignbhmoaaaMgc5
import Derived.Test.YtcgflignbhmoaaaMgc9
namespace Go.Proofs.Ytcgflignbhmoaaa
open Go.RowKit

set_option linter.unusedSimpArgs false
set_option linter.unusedVariables false
set_option linter.constructorNameAsVariable false

set_option maxRecDepth 100000
set_option maxHeartbeats 2000000

theorem hc_linealref01_Reads (s : Int × Int × (List (List Int)) × (List (List Int))) (op0 : Int) {r : Bool × Int} (h : linealref01_Reads s op0 = some r) : HC Try.prog 49 [] [.agg [.int .i64 s.1, .int .i64 s.2.1, .sl (.sl (.int .i64)) s.2.2.1, .sl (.sl (.int .i64)) s.2.2.2], .int .i64 op0] [] (.tup [.bool r.1, .int .i64 r.2]) := by
 unfold linealref01_Reads at h
 refine zH Try.func49 [.tmp 4, .tmp 5] 36 ?_
 refine zo ?_
 refine zB [(1, .int .i64 op0), (2, .bp 2 0)] [(2, .box 24 [.int .i64 s.1, .int .i64 s.2.1, .sl (.sl (.int .i64)) s.2.2.1, .sl (.sl (.int .i64)) s.2.2.2])] ?_
 refine AW.seq ?_
 refine zo ?_
 refine zS 3 [(1, .int .i64 op0), (2, .bp 2 0), (9, .agg [.int .i64 s.1, .int .i64 s.2.1, .sl (.sl (.int .i64)) s.2.2.1, .sl (.sl (.int .i64)) s.2.2.2]), (10, .int .i64 op0), (11, .int .i64 op0)] [(2, .box 24 [.int .i64 s.1, .int .i64 s.2.1, .sl (.sl (.int .i64)) s.2.2.1, .sl (.sl (.int .i64)) s.2.2.2])] ?_
 obtain ⟨v0, hv1, h⟩ := Option.bind_eq_some_iff.1 h
 refine zC [] [] (hc_linealref01_calls s 0 op0 op0 hv1) [(1, .int .i64 op0), (2, .bp 2 0), (12, .int .i64 v0)] [(2, .box 24 [.int .i64 s.1, .int .i64 s.2.1, .sl (.sl (.int .i64)) s.2.2.1, .sl (.sl (.int .i64)) s.2.2.2])] ?_
 refine zB [(1, .int .i64 op0), (2, .bp 2 0), (6, .int .i64 v0)] [(2, .box 24 [.int .i64 s.1, .int .i64 s.2.1, .sl (.sl (.int .i64)) s.2.2.1, .sl (.sl (.int .i64)) s.2.2.2])] ?_
 refine zo ?_
 refine zB [(1, .int .i64 op0), (2, .bp 2 0), (6, .int .i64 v0), (14, .bool (!(decide (v0 = 0))))] [(2, .box 24 [.int .i64 s.1, .int .i64 s.2.1, .sl (.sl (.int .i64)) s.2.2.1, .sl (.sl (.int .i64)) s.2.2.2])] ?_
 refine zQ h (fun hb2 h => ?_) (fun hb2 h => ?_)
 ·refine zo ?_
  refine zB [(4, .bool false), (5, .int .i64 v0)] [] ?_
  refine zr ?_
  obtain rfl := Option.some.inj h
  exact zR [] [] []
 ·refine zk ?_
  refine AW.have1 (fun _ : Unit => linealref01_Reads_k1 = some r) (fun _ => ⟨fr [], hpGet [], gt⟩) (fun _ h => ?_) (fun hk_linealref01_Reads_k1 => ?_)
  ·as_aux_lemma =>
    unfold linealref01_Reads_k1 at h
    refine zo ?_
    refine zB [(4, .bool true), (5, .int .i64 0)] [] ?_
    refine AW.ret ?_
    obtain rfl := Option.some.inj h
    exact zR [] [] []
  ·refine AW.seq ?_
   refine zo ?_
   refine zS 1 [(1, .int .i64 op0), (2, .bp 2 0), (16, .agg [.int .i64 s.1, .int .i64 s.2.1, .sl (.sl (.int .i64)) s.2.2.1, .sl (.sl (.int .i64)) s.2.2.2])] [(2, .box 24 [.int .i64 s.1, .int .i64 s.2.1, .sl (.sl (.int .i64)) s.2.2.1, .sl (.sl (.int .i64)) s.2.2.2])] ?_
   obtain ⟨v0_2, hv3, h⟩ := Option.bind_eq_some_iff.1 h
   refine zC [] [] (hc_linealref01_reached s hv3) [(1, .int .i64 op0), (2, .bp 2 0), (17, .own 27000)] [(2, .box 24 [.int .i64 s.1, .int .i64 s.2.1, .sl (.sl (.int .i64)) s.2.2.1, .sl (.sl (.int .i64)) s.2.2.2]), (27000, .arr 3 (.int .i64) v0_2)] ?_
   refine zB [(1, .int .i64 op0), (2, .bp 2 0), (17, .own 27000), (18, .int .i64 (v0_2.length : Int)), (19, .int .i64 0)] [(2, .box 24 [.int .i64 s.1, .int .i64 s.2.1, .sl (.sl (.int .i64)) s.2.2.1, .sl (.sl (.int .i64)) s.2.2.2]), (27000, .arr 3 (.int .i64) v0_2)] ?_
   refine AW.block ?_
   obtain ⟨rv8, hw4, ho5⟩ := Option.bind_eq_some_iff.1 h
   refine AW.loopO (linealref01_Reads_b1 s op0 v0_2) (fun st1 => ⟨fr [(1, .int .i64 op0), (2, .bp 2 0), (17, .own 27000), (18, .int .i64 (v0_2.length : Int)), (19, .int .i64 st1)], hpGet [(2, .box 24 [.int .i64 s.1, .int .i64 s.2.1, .sl (.sl (.int .i64)) s.2.2.1, .sl (.sl (.int .i64)) s.2.2.2]), (27000, .arr 3 (.int .i64) v0_2)], gt⟩) 0 hw4 (zL [] [] []) ?_
   as_aux_lemma =>
    intro st1 x7 h hd6
    unfold linealref01_Reads_b1 at h
    refine zo ?_
    refine zB [(1, .int .i64 op0), (2, .bp 2 0), (17, .own 27000), (18, .int .i64 (v0_2.length : Int)), (19, .int .i64 st1), (20, .bool (decide (st1 < (v0_2.length : Int))))] [(2, .box 24 [.int .i64 s.1, .int .i64 s.2.1, .sl (.sl (.int .i64)) s.2.2.1, .sl (.sl (.int .i64)) s.2.2.2]), (27000, .arr 3 (.int .i64) v0_2)] ?_
    refine AW.seq ?_
    refine zQ h (fun hb9 h => ?_) (fun hb9 h => ?_)
    ·refine zk ?_
     refine AW.seq ?_
     refine AW.block ?_
     refine zo ?_
     obtain ⟨c10, h⟩ := ck_some.1 h
     obtain ⟨c11, h⟩ := ck_some.1 h
     refine zB [(1, .int .i64 op0), (2, .bp 2 0), (8, .int .i64 (v0_2.getD st1.toNat 0)), (17, .own 27000), (18, .int .i64 (v0_2.length : Int)), (19, .int .i64 st1)] [(2, .box 24 [.int .i64 s.1, .int .i64 s.2.1, .sl (.sl (.int .i64)) s.2.2.1, .sl (.sl (.int .i64)) s.2.2.2]), (27000, .arr 3 (.int .i64) v0_2)] ?_
     refine AW.seq ?_
     refine AW.draw tab_ok mixed_ok [] [] (by decide) (lex_fast (by kernel_rfl)) ?_
     as_aux_lemma =>
      obtain ⟨c13, h⟩ := ck_some.1 h
      obtain ⟨c14, h⟩ := ck_some.1 h
      refine adops_cut 6 (fun K' hK12 => ?_)
      try dsimp only [List.drop_succ_cons, List.drop_zero, List.take_succ_cons, List.take_zero]
      simp only [go_sem, hb2, hb9]
      repeat with_reducible refine zN ?_
      refine hK12 _ ?_
      as_aux_lemma =>
       obtain ⟨c16, h⟩ := ck_some.1 h
       obtain ⟨c17, h⟩ := ck_some.1 h
       refine adops_cut 4 (fun K' hK15 => ?_)
       try dsimp only [List.drop_succ_cons, List.drop_zero, List.take_succ_cons, List.take_zero]
       simp only [go_sem, hb2, hb9]
       repeat with_reducible refine zN ?_
       refine hK15 _ ?_
       as_aux_lemma =>
        obtain ⟨v0_3, hv18, h⟩ := Option.bind_eq_some_iff.1 h
        refine adops.call (by first | trivial | rfl) rfl rfl rfl (fun _ h => h) [] [] (hc_linealref01_same s (v0_2.getD st1.toNat 0) ((s.2.2.1.getD (v0_2.getD st1.toNat 0).toNat []).getD op0.toNat 0) hv18) rfl (by (simp only [go_sem, hb2, hb9]) <;> (with_reducible and_intros) <;> first | assumption | rfl | omega | (unfold maxLen; omega)) (by (simp only [go_sem, hb2, hb9]) <;> (with_reducible and_intros) <;> first | assumption | rfl | omega | (unfold maxLen; omega)) rfl ?_
        refine adops_cut 1 (fun K' hK19 => ?_)
        try dsimp only [List.drop_succ_cons, List.drop_zero, List.take_succ_cons, List.take_zero]
        simp only [go_sem, hb2, hb9]
        repeat with_reducible refine zN ?_
        refine hK19 _ ?_
        refine adops_nil ?_
        refine athen_n ?_
        refine zV [(1, .int .i64 op0), (2, .bp 2 0), (17, .own 27000), (18, .int .i64 (v0_2.length : Int)), (19, .int .i64 st1), (34, .bool (!v0_3))] [(2, .box 24 [.int .i64 s.1, .int .i64 s.2.1, .sl (.sl (.int .i64)) s.2.2.1, .sl (.sl (.int .i64)) s.2.2.2]), (27000, .arr 3 (.int .i64) v0_2)] gt ?_
        as_aux_lemma =>
         refine zQ h (fun hb20 h => ?_) (fun hb20 h => ?_)
         ·refine zo ?_
          refine zB [(4, .bool false), (5, .int .i64 0)] [] ?_
          refine AW.ret ?_
          refine ablock_r ?_
          refine athen_r ?_
          obtain rfl := Option.some.inj h
          rw [← hd6 _ rfl] at ho5
          have h := ho5
          try simp only at h
          refine athen_r ?_
          refine ablock_r ?_
          refine athen_r ?_
          obtain rfl := Option.some.inj h
          exact zR [] [] []
         ·refine zm ?_
          refine athen_n ?_
          refine AW.ops ?_
          obtain ⟨c21, h⟩ := ck_some.1 h
          refine zA [(1, .int .i64 op0), (2, .bp 2 0), (17, .own 27000), (18, .int .i64 (v0_2.length : Int)), (19, .int .i64 (st1 + 1))] [(2, .box 24 [.int .i64 s.1, .int .i64 s.2.1, .sl (.sl (.int .i64)) s.2.2.1, .sl (.sl (.int .i64)) s.2.2.2]), (27000, .arr 3 (.int .i64) v0_2)] ?_
          obtain rfl := Option.some.inj h
          exact ⟨_, rfl, zL [] [] []⟩
    ·refine AW.exit ?_
     refine athen_e ?_
     obtain rfl := Option.some.inj h
     rw [← hd6 _ rfl] at ho5
     have h := ho5
     try simp only at h
     refine athen_e ?_
     refine ablock_s ?_
     refine athen_n ?_
     exact AW.weaken (zL [] [] []) (hk_linealref01_Reads_k1 () h)

theorem hc_linealref01_Meddles (s : Int × Int × (List (List Int)) × (List (List Int))) {r : Int × Int × Int × Int} (h : linealref01_Meddles s = some r) : HC Try.prog 51 [] [.agg [.int .i64 s.1, .int .i64 s.2.1, .sl (.sl (.int .i64)) s.2.2.1, .sl (.sl (.int .i64)) s.2.2.2]] [] (.tup [.int .i64 r.1, .int .i64 r.2.1, .int .i64 r.2.2.1, .int .i64 r.2.2.2]) := by
 unfold linealref01_Meddles at h
 refine zH Try.func51 [.tmp 2, .tmp 3, .tmp 4, .tmp 5] 59 ?_
 refine zo ?_
 refine zB [(1, .bp 1 0)] [(1, .box 24 [.int .i64 s.1, .int .i64 s.2.1, .sl (.sl (.int .i64)) s.2.2.1, .sl (.sl (.int .i64)) s.2.2.2])] ?_
 refine AW.seq ?_
 refine zo ?_
 refine zS 1 [(1, .bp 1 0), (10, .agg [.int .i64 s.1, .int .i64 s.2.1, .sl (.sl (.int .i64)) s.2.2.1, .sl (.sl (.int .i64)) s.2.2.2])] [(1, .box 24 [.int .i64 s.1, .int .i64 s.2.1, .sl (.sl (.int .i64)) s.2.2.1, .sl (.sl (.int .i64)) s.2.2.2])] ?_
 obtain ⟨v0, hv1, h⟩ := Option.bind_eq_some_iff.1 h
 refine zC [] [] (hc_linealref01_Valid s hv1) [(1, .bp 1 0), (11, .bool v0)] [(1, .box 24 [.int .i64 s.1, .int .i64 s.2.1, .sl (.sl (.int .i64)) s.2.2.1, .sl (.sl (.int .i64)) s.2.2.2])] ?_
 refine zB [(1, .bp 1 0), (12, .bool (!v0))] [(1, .box 24 [.int .i64 s.1, .int .i64 s.2.1, .sl (.sl (.int .i64)) s.2.2.1, .sl (.sl (.int .i64)) s.2.2.2])] ?_
 refine zQ h (fun hb2 h => ?_) (fun hb2 h => ?_)
 ·refine zo ?_
  refine zB [(2, .int .i64 0), (3, .int .i64 0), (4, .int .i64 0), (5, .int .i64 10)] [] ?_
  refine zr ?_
  obtain rfl := Option.some.inj h
  exact zR [] [] []
 ·refine zk ?_
  refine AW.have1 (fun _ : Unit => linealref01_Meddles_k1 = some r) (fun _ => ⟨fr [], hpGet [], gt⟩) (fun _ h => ?_) (fun hk_linealref01_Meddles_k1 => ?_)
  ·as_aux_lemma =>
    unfold linealref01_Meddles_k1 at h
    refine zo ?_
    refine zB [(2, .int .i64 0), (3, .int .i64 0), (4, .int .i64 0), (5, .int .i64 5)] [] ?_
    refine AW.ret ?_
    obtain rfl := Option.some.inj h
    exact zR [] [] []
  ·refine AW.seq ?_
   refine zo ?_
   refine zS 1 [(1, .bp 1 0), (13, .agg [.int .i64 s.1, .int .i64 s.2.1, .sl (.sl (.int .i64)) s.2.2.1, .sl (.sl (.int .i64)) s.2.2.2])] [(1, .box 24 [.int .i64 s.1, .int .i64 s.2.1, .sl (.sl (.int .i64)) s.2.2.1, .sl (.sl (.int .i64)) s.2.2.2])] ?_
   obtain ⟨v0_2, hv3, h⟩ := Option.bind_eq_some_iff.1 h
   refine zC [] [] (hc_linealref01_reached s hv3) [(1, .bp 1 0), (14, .own 24000)] [(1, .box 24 [.int .i64 s.1, .int .i64 s.2.1, .sl (.sl (.int .i64)) s.2.2.1, .sl (.sl (.int .i64)) s.2.2.2]), (24000, .arr 3 (.int .i64) v0_2)] ?_
   refine zB [(1, .bp 1 0), (14, .own 24000), (15, .int .i64 (v0_2.length : Int)), (16, .int .i64 0)] [(1, .box 24 [.int .i64 s.1, .int .i64 s.2.1, .sl (.sl (.int .i64)) s.2.2.1, .sl (.sl (.int .i64)) s.2.2.2]), (24000, .arr 3 (.int .i64) v0_2)] ?_
   refine AW.block ?_
   obtain ⟨rv8, hw4, ho5⟩ := Option.bind_eq_some_iff.1 h
   refine AW.loopO (linealref01_Meddles_b1 s v0_2) (fun st1 => ⟨fr [(1, .bp 1 0), (14, .own 24000), (15, .int .i64 (v0_2.length : Int)), (16, .int .i64 st1)], hpGet [(1, .box 24 [.int .i64 s.1, .int .i64 s.2.1, .sl (.sl (.int .i64)) s.2.2.1, .sl (.sl (.int .i64)) s.2.2.2]), (24000, .arr 3 (.int .i64) v0_2)], gt⟩) 0 hw4 (zL [] [] []) ?_
   as_aux_lemma =>
    intro st1 x7 h hd6
    unfold linealref01_Meddles_b1 at h
    refine zo ?_
    refine zB [(1, .bp 1 0), (14, .own 24000), (15, .int .i64 (v0_2.length : Int)), (16, .int .i64 st1), (17, .bool (decide (st1 < (v0_2.length : Int))))] [(1, .box 24 [.int .i64 s.1, .int .i64 s.2.1, .sl (.sl (.int .i64)) s.2.2.1, .sl (.sl (.int .i64)) s.2.2.2]), (24000, .arr 3 (.int .i64) v0_2)] ?_
    refine AW.seq ?_
    refine zQ h (fun hb9 h => ?_) (fun hb9 h => ?_)
    ·refine zk ?_
     refine AW.have1 (fun _ : Unit => linealref01_Meddles_k2 st1 = some x7) (fun _ => ⟨fr [(1, .bp 1 0), (14, .own 24000), (15, .int .i64 (v0_2.length : Int)), (16, .int .i64 st1)], hpGet [(1, .box 24 [.int .i64 s.1, .int .i64 s.2.1, .sl (.sl (.int .i64)) s.2.2.1, .sl (.sl (.int .i64)) s.2.2.2]), (24000, .arr 3 (.int .i64) v0_2)], gt⟩) (fun _ h => ?_) (fun hk_linealref01_Meddles_k2 => ?_)
     ·as_aux_lemma =>
       unfold linealref01_Meddles_k2 at h
       refine AW.ops ?_
       obtain ⟨c10, h⟩ := ck_some.1 h
       refine zA [(1, .bp 1 0), (14, .own 24000), (15, .int .i64 (v0_2.length : Int)), (16, .int .i64 (st1 + 1))] [(1, .box 24 [.int .i64 s.1, .int .i64 s.2.1, .sl (.sl (.int .i64)) s.2.2.1, .sl (.sl (.int .i64)) s.2.2.2]), (24000, .arr 3 (.int .i64) v0_2)] ?_
       obtain rfl := Option.some.inj h
       exact ⟨_, rfl, zL [] [] []⟩
     ·refine AW.seq ?_
      refine AW.block ?_
      refine zo ?_
      obtain ⟨c11, h⟩ := ck_some.1 h
      obtain ⟨c12, h⟩ := ck_some.1 h
      refine zB [(1, .bp 1 0), (7, .int .i64 (v0_2.getD st1.toNat 0)), (14, .own 24000), (15, .int .i64 (v0_2.length : Int)), (16, .int .i64 st1)] [(1, .box 24 [.int .i64 s.1, .int .i64 s.2.1, .sl (.sl (.int .i64)) s.2.2.1, .sl (.sl (.int .i64)) s.2.2.2]), (24000, .arr 3 (.int .i64) v0_2)] ?_
      refine zo ?_
      refine zB [(1, .bp 1 0), (7, .int .i64 (v0_2.getD st1.toNat 0)), (14, .own 24000), (15, .int .i64 (v0_2.length : Int)), (16, .int .i64 st1), (21, .int .i64 s.2.1), (22, .int .i64 0)] [(1, .box 24 [.int .i64 s.1, .int .i64 s.2.1, .sl (.sl (.int .i64)) s.2.2.1, .sl (.sl (.int .i64)) s.2.2.2]), (24000, .arr 3 (.int .i64) v0_2)] ?_
      refine AW.block ?_
      obtain ⟨rv17, hw13, ho14⟩ := Option.bind_eq_some_iff.1 h
      refine AW.loopO (linealref01_Meddles_b2 s v0_2 st1) (fun st2 => ⟨fr [(1, .bp 1 0), (7, .int .i64 (v0_2.getD st1.toNat 0)), (14, .own 24000), (15, .int .i64 (v0_2.length : Int)), (16, .int .i64 st1), (21, .int .i64 s.2.1), (22, .int .i64 st2)], hpGet [(1, .box 24 [.int .i64 s.1, .int .i64 s.2.1, .sl (.sl (.int .i64)) s.2.2.1, .sl (.sl (.int .i64)) s.2.2.2]), (24000, .arr 3 (.int .i64) v0_2)], gt⟩) 0 hw13 (zL [] [] []) ?_
      as_aux_lemma =>
       intro st2 x16 h hd15
       unfold linealref01_Meddles_b2 at h
       refine zo ?_
       refine zB [(1, .bp 1 0), (7, .int .i64 (v0_2.getD st1.toNat 0)), (14, .own 24000), (15, .int .i64 (v0_2.length : Int)), (16, .int .i64 st1), (21, .int .i64 s.2.1), (22, .int .i64 st2), (23, .bool (decide (st2 < s.2.1)))] [(1, .box 24 [.int .i64 s.1, .int .i64 s.2.1, .sl (.sl (.int .i64)) s.2.2.1, .sl (.sl (.int .i64)) s.2.2.2]), (24000, .arr 3 (.int .i64) v0_2)] ?_
       refine AW.seq ?_
       refine zQ h (fun hb18 h => ?_) (fun hb18 h => ?_)
       ·refine zk ?_
        refine AW.have1 (fun _ : Unit => linealref01_Meddles_k3 st2 = some x16) (fun _ => ⟨fr [(1, .bp 1 0), (7, .int .i64 (v0_2.getD st1.toNat 0)), (14, .own 24000), (15, .int .i64 (v0_2.length : Int)), (16, .int .i64 st1), (21, .int .i64 s.2.1), (22, .int .i64 st2)], hpGet [(1, .box 24 [.int .i64 s.1, .int .i64 s.2.1, .sl (.sl (.int .i64)) s.2.2.1, .sl (.sl (.int .i64)) s.2.2.2]), (24000, .arr 3 (.int .i64) v0_2)], gt⟩) (fun _ h => ?_) (fun hk_linealref01_Meddles_k3 => ?_)
        ·as_aux_lemma =>
          unfold linealref01_Meddles_k3 at h
          refine AW.ops ?_
          obtain ⟨c19, h⟩ := ck_some.1 h
          refine zA [(1, .bp 1 0), (7, .int .i64 (v0_2.getD st1.toNat 0)), (14, .own 24000), (15, .int .i64 (v0_2.length : Int)), (16, .int .i64 st1), (21, .int .i64 s.2.1), (22, .int .i64 (st2 + 1))] [(1, .box 24 [.int .i64 s.1, .int .i64 s.2.1, .sl (.sl (.int .i64)) s.2.2.1, .sl (.sl (.int .i64)) s.2.2.2]), (24000, .arr 3 (.int .i64) v0_2)] ?_
          obtain rfl := Option.some.inj h
          exact ⟨_, rfl, zL [] [] []⟩
        ·refine AW.seq ?_
         refine AW.block ?_
         refine zo ?_
         refine zB [(1, .bp 1 0), (7, .int .i64 (v0_2.getD st1.toNat 0)), (8, .int .i64 st2), (14, .own 24000), (15, .int .i64 (v0_2.length : Int)), (16, .int .i64 st1), (21, .int .i64 s.2.1), (22, .int .i64 st2)] [(1, .box 24 [.int .i64 s.1, .int .i64 s.2.1, .sl (.sl (.int .i64)) s.2.2.1, .sl (.sl (.int .i64)) s.2.2.2]), (24000, .arr 3 (.int .i64) v0_2)] ?_
         refine zo ?_
         refine zB [(1, .bp 1 0), (7, .int .i64 (v0_2.getD st1.toNat 0)), (8, .int .i64 st2), (9, .int .i64 st2), (14, .own 24000), (15, .int .i64 (v0_2.length : Int)), (16, .int .i64 st1), (21, .int .i64 s.2.1), (22, .int .i64 st2)] [(1, .box 24 [.int .i64 s.1, .int .i64 s.2.1, .sl (.sl (.int .i64)) s.2.2.1, .sl (.sl (.int .i64)) s.2.2.2]), (24000, .arr 3 (.int .i64) v0_2)] ?_
         refine AW.block ?_
         obtain ⟨rv24, hw20, ho21⟩ := Option.bind_eq_some_iff.1 h
         refine AW.loopO (linealref01_Meddles_b3 s v0_2 st1 st2) (fun st3 => ⟨fr [(1, .bp 1 0), (7, .int .i64 (v0_2.getD st1.toNat 0)), (8, .int .i64 st2), (9, .int .i64 st3), (14, .own 24000), (15, .int .i64 (v0_2.length : Int)), (16, .int .i64 st1), (21, .int .i64 s.2.1), (22, .int .i64 st2)], hpGet [(1, .box 24 [.int .i64 s.1, .int .i64 s.2.1, .sl (.sl (.int .i64)) s.2.2.1, .sl (.sl (.int .i64)) s.2.2.2]), (24000, .arr 3 (.int .i64) v0_2)], gt⟩) st2 hw20 (zL [] [] []) ?_
         as_aux_lemma =>
          intro st3 x23 h hd22
          unfold linealref01_Meddles_b3 at h
          refine AW.seq ?_
          refine zo ?_
          refine zB [(1, .bp 1 0), (7, .int .i64 (v0_2.getD st1.toNat 0)), (8, .int .i64 st2), (9, .int .i64 st3), (14, .own 24000), (15, .int .i64 (v0_2.length : Int)), (16, .int .i64 st1), (21, .int .i64 s.2.1), (22, .int .i64 st2), (29, .bool (decide (st3 < s.2.1)))] [(1, .box 24 [.int .i64 s.1, .int .i64 s.2.1, .sl (.sl (.int .i64)) s.2.2.1, .sl (.sl (.int .i64)) s.2.2.2]), (24000, .arr 3 (.int .i64) v0_2)] ?_
          refine zQ h (fun hb25 h => ?_) (fun hb25 h => ?_)
          ·refine zk ?_
           refine AW.seq ?_
           refine AW.block ?_
           refine zo ?_
           refine zS 4 [(1, .bp 1 0), (7, .int .i64 (v0_2.getD st1.toNat 0)), (8, .int .i64 st2), (9, .int .i64 st3), (14, .own 24000), (15, .int .i64 (v0_2.length : Int)), (16, .int .i64 st1), (21, .int .i64 s.2.1), (22, .int .i64 st2), (32, .agg [.int .i64 s.1, .int .i64 s.2.1, .sl (.sl (.int .i64)) s.2.2.1, .sl (.sl (.int .i64)) s.2.2.2]), (33, .int .i64 (v0_2.getD st1.toNat 0)), (34, .int .i64 st2), (35, .int .i64 st3)] [(1, .box 24 [.int .i64 s.1, .int .i64 s.2.1, .sl (.sl (.int .i64)) s.2.2.1, .sl (.sl (.int .i64)) s.2.2.2]), (24000, .arr 3 (.int .i64) v0_2)] ?_
           obtain ⟨v0_3, hv26, h⟩ := Option.bind_eq_some_iff.1 h
           refine zC [] [] (hc_linealref01_commute s (v0_2.getD st1.toNat 0) st2 st3 hv26) [(1, .bp 1 0), (7, .int .i64 (v0_2.getD st1.toNat 0)), (8, .int .i64 st2), (9, .int .i64 st3), (14, .own 24000), (15, .int .i64 (v0_2.length : Int)), (16, .int .i64 st1), (21, .int .i64 s.2.1), (22, .int .i64 st2), (36, .bool v0_3)] [(1, .box 24 [.int .i64 s.1, .int .i64 s.2.1, .sl (.sl (.int .i64)) s.2.2.1, .sl (.sl (.int .i64)) s.2.2.2]), (24000, .arr 3 (.int .i64) v0_2)] ?_
           refine zS 2 [(1, .bp 1 0), (7, .int .i64 (v0_2.getD st1.toNat 0)), (8, .int .i64 st2), (9, .int .i64 st3), (14, .own 24000), (15, .int .i64 (v0_2.length : Int)), (16, .int .i64 st1), (21, .int .i64 s.2.1), (22, .int .i64 st2), (38, .bool (!v0_3))] [(1, .box 24 [.int .i64 s.1, .int .i64 s.2.1, .sl (.sl (.int .i64)) s.2.2.1, .sl (.sl (.int .i64)) s.2.2.2]), (24000, .arr 3 (.int .i64) v0_2)] ?_
           rcases zI h with ⟨hb27, h⟩ | ⟨hb27, h⟩
           ·refine zS 4 [(1, .bp 1 0), (7, .int .i64 (v0_2.getD st1.toNat 0)), (8, .int .i64 st2), (9, .int .i64 st3), (14, .own 24000), (15, .int .i64 (v0_2.length : Int)), (16, .int .i64 st1), (21, .int .i64 s.2.1), (22, .int .i64 st2), (38, .bool true), (39, .agg [.int .i64 s.1, .int .i64 s.2.1, .sl (.sl (.int .i64)) s.2.2.1, .sl (.sl (.int .i64)) s.2.2.2]), (40, .int .i64 (v0_2.getD st1.toNat 0)), (41, .int .i64 st2), (42, .int .i64 st3)] [(1, .box 24 [.int .i64 s.1, .int .i64 s.2.1, .sl (.sl (.int .i64)) s.2.2.1, .sl (.sl (.int .i64)) s.2.2.2]), (24000, .arr 3 (.int .i64) v0_2)] ?_
            obtain ⟨v0_4, hv28, h⟩ := Option.bind_eq_some_iff.1 h
            refine zG [] [] (hc_linealref01_overwrites s (v0_2.getD st1.toNat 0) st2 st3 hv28) [(1, .bp 1 0), (7, .int .i64 (v0_2.getD st1.toNat 0)), (8, .int .i64 st2), (9, .int .i64 st3), (14, .own 24000), (15, .int .i64 (v0_2.length : Int)), (16, .int .i64 st1), (21, .int .i64 s.2.1), (22, .int .i64 st2), (38, .bool true), (43, .bool v0_4)] [(1, .box 24 [.int .i64 s.1, .int .i64 s.2.1, .sl (.sl (.int .i64)) s.2.2.1, .sl (.sl (.int .i64)) s.2.2.2]), (24000, .arr 3 (.int .i64) v0_2)] ?_
            refine zS 3 [(1, .bp 1 0), (7, .int .i64 (v0_2.getD st1.toNat 0)), (8, .int .i64 st2), (9, .int .i64 st3), (14, .own 24000), (15, .int .i64 (v0_2.length : Int)), (16, .int .i64 st1), (21, .int .i64 s.2.1), (22, .int .i64 st2), (46, .bool (!v0_4))] [(1, .box 24 [.int .i64 s.1, .int .i64 s.2.1, .sl (.sl (.int .i64)) s.2.2.1, .sl (.sl (.int .i64)) s.2.2.2]), (24000, .arr 3 (.int .i64) v0_2)] ?_
            rcases zI h with ⟨hb29, h⟩ | ⟨hb29, h⟩
            ·refine zS 4 [(1, .bp 1 0), (7, .int .i64 (v0_2.getD st1.toNat 0)), (8, .int .i64 st2), (9, .int .i64 st3), (14, .own 24000), (15, .int .i64 (v0_2.length : Int)), (16, .int .i64 st1), (21, .int .i64 s.2.1), (22, .int .i64 st2), (46, .bool true), (47, .agg [.int .i64 s.1, .int .i64 s.2.1, .sl (.sl (.int .i64)) s.2.2.1, .sl (.sl (.int .i64)) s.2.2.2]), (48, .int .i64 (v0_2.getD st1.toNat 0)), (49, .int .i64 st3), (50, .int .i64 st2)] [(1, .box 24 [.int .i64 s.1, .int .i64 s.2.1, .sl (.sl (.int .i64)) s.2.2.1, .sl (.sl (.int .i64)) s.2.2.2]), (24000, .arr 3 (.int .i64) v0_2)] ?_
             obtain ⟨v0_5, hv30, h⟩ := Option.bind_eq_some_iff.1 h
             refine zG [] [] (hc_linealref01_overwrites s (v0_2.getD st1.toNat 0) st3 st2 hv30) [(1, .bp 1 0), (7, .int .i64 (v0_2.getD st1.toNat 0)), (8, .int .i64 st2), (9, .int .i64 st3), (14, .own 24000), (15, .int .i64 (v0_2.length : Int)), (16, .int .i64 st1), (21, .int .i64 s.2.1), (22, .int .i64 st2), (46, .bool true), (51, .bool v0_5)] [(1, .box 24 [.int .i64 s.1, .int .i64 s.2.1, .sl (.sl (.int .i64)) s.2.2.1, .sl (.sl (.int .i64)) s.2.2.2]), (24000, .arr 3 (.int .i64) v0_2)] ?_
             refine zB [(1, .bp 1 0), (7, .int .i64 (v0_2.getD st1.toNat 0)), (8, .int .i64 st2), (9, .int .i64 st3), (14, .own 24000), (15, .int .i64 (v0_2.length : Int)), (16, .int .i64 st1), (21, .int .i64 s.2.1), (22, .int .i64 st2), (53, .bool (!v0_5))] [(1, .box 24 [.int .i64 s.1, .int .i64 s.2.1, .sl (.sl (.int .i64)) s.2.2.1, .sl (.sl (.int .i64)) s.2.2.2]), (24000, .arr 3 (.int .i64) v0_2)] ?_
             refine zQ h (fun hb31 h => ?_) (fun hb31 h => ?_)
             ·refine zo ?_
              refine zS 5 [(2, .int .i64 (v0_2.getD st1.toNat 0)), (3, .int .i64 st2), (56, .int .i64 st3)] [] ?_
              refine zB [(2, .int .i64 (v0_2.getD st1.toNat 0)), (3, .int .i64 st2), (4, .int .i64 st3), (5, .int .i64 0)] [] ?_
              refine AW.ret ?_
              refine ablock_r ?_
              refine athen_r ?_
              obtain rfl := Option.some.inj h
              rw [← hd22 _ rfl] at ho21
              have h := ho21
              try simp only at h
              refine athen_r ?_
              refine ablock_r ?_
              refine ablock_r ?_
              refine athen_r ?_
              obtain rfl := Option.some.inj h
              rw [← hd15 _ rfl] at ho14
              have h := ho14
              try simp only at h
              refine athen_r ?_
              refine ablock_r ?_
              refine ablock_r ?_
              refine athen_r ?_
              obtain rfl := Option.some.inj h
              rw [← hd6 _ rfl] at ho5
              have h := ho5
              try simp only at h
              refine athen_r ?_
              refine ablock_r ?_
              refine athen_r ?_
              obtain rfl := Option.some.inj h
              exact zR [] [] []
             ·refine zm ?_
              refine athen_n ?_
              refine AW.ops ?_
              obtain ⟨c32, h⟩ := ck_some.1 h
              refine zA [(1, .bp 1 0), (7, .int .i64 (v0_2.getD st1.toNat 0)), (8, .int .i64 st2), (9, .int .i64 (st3 + 1)), (14, .own 24000), (15, .int .i64 (v0_2.length : Int)), (16, .int .i64 st1), (21, .int .i64 s.2.1), (22, .int .i64 st2)] [(1, .box 24 [.int .i64 s.1, .int .i64 s.2.1, .sl (.sl (.int .i64)) s.2.2.1, .sl (.sl (.int .i64)) s.2.2.2]), (24000, .arr 3 (.int .i64) v0_2)] ?_
              obtain rfl := Option.some.inj h
              exact ⟨_, rfl, zL [] [] []⟩
            ·refine zS 4 [(1, .bp 1 0), (7, .int .i64 (v0_2.getD st1.toNat 0)), (8, .int .i64 st2), (9, .int .i64 st3), (14, .own 24000), (15, .int .i64 (v0_2.length : Int)), (16, .int .i64 st1), (21, .int .i64 s.2.1), (22, .int .i64 st2), (46, .bool false), (47, .cv (undef)), (48, .cv (undef)), (49, .cv (undef)), (50, .cv (undef))] [(1, .box 24 [.int .i64 s.1, .int .i64 s.2.1, .sl (.sl (.int .i64)) s.2.2.1, .sl (.sl (.int .i64)) s.2.2.2]), (24000, .arr 3 (.int .i64) v0_2)] ?_
             refine zB [(1, .bp 1 0), (7, .int .i64 (v0_2.getD st1.toNat 0)), (8, .int .i64 st2), (9, .int .i64 st3), (14, .own 24000), (15, .int .i64 (v0_2.length : Int)), (16, .int .i64 st1), (21, .int .i64 s.2.1), (22, .int .i64 st2), (53, .bool false)] [(1, .box 24 [.int .i64 s.1, .int .i64 s.2.1, .sl (.sl (.int .i64)) s.2.2.1, .sl (.sl (.int .i64)) s.2.2.2]), (24000, .arr 3 (.int .i64) v0_2)] ?_
             refine AW.cond (b := false) rfl (fun hb33 => by cases hb33) (fun _ => ?_)
             refine zm ?_
             refine athen_n ?_
             refine AW.ops ?_
             obtain ⟨c34, h⟩ := ck_some.1 h
             refine zA [(1, .bp 1 0), (7, .int .i64 (v0_2.getD st1.toNat 0)), (8, .int .i64 st2), (9, .int .i64 (st3 + 1)), (14, .own 24000), (15, .int .i64 (v0_2.length : Int)), (16, .int .i64 st1), (21, .int .i64 s.2.1), (22, .int .i64 st2)] [(1, .box 24 [.int .i64 s.1, .int .i64 s.2.1, .sl (.sl (.int .i64)) s.2.2.1, .sl (.sl (.int .i64)) s.2.2.2]), (24000, .arr 3 (.int .i64) v0_2)] ?_
             obtain rfl := Option.some.inj h
             exact ⟨_, rfl, zL [] [] []⟩
           ·refine zS 4 [(1, .bp 1 0), (7, .int .i64 (v0_2.getD st1.toNat 0)), (8, .int .i64 st2), (9, .int .i64 st3), (14, .own 24000), (15, .int .i64 (v0_2.length : Int)), (16, .int .i64 st1), (21, .int .i64 s.2.1), (22, .int .i64 st2), (38, .bool false), (39, .cv (undef)), (40, .cv (undef)), (41, .cv (undef)), (42, .cv (undef))] [(1, .box 24 [.int .i64 s.1, .int .i64 s.2.1, .sl (.sl (.int .i64)) s.2.2.1, .sl (.sl (.int .i64)) s.2.2.2]), (24000, .arr 3 (.int .i64) v0_2)] ?_
            refine zS 5 [(1, .bp 1 0), (7, .int .i64 (v0_2.getD st1.toNat 0)), (8, .int .i64 st2), (9, .int .i64 st3), (14, .own 24000), (15, .int .i64 (v0_2.length : Int)), (16, .int .i64 st1), (21, .int .i64 s.2.1), (22, .int .i64 st2), (46, .bool false), (47, .cv (undef))] [(1, .box 24 [.int .i64 s.1, .int .i64 s.2.1, .sl (.sl (.int .i64)) s.2.2.1, .sl (.sl (.int .i64)) s.2.2.2]), (24000, .arr 3 (.int .i64) v0_2)] ?_
            refine zS 4 [(1, .bp 1 0), (7, .int .i64 (v0_2.getD st1.toNat 0)), (8, .int .i64 st2), (9, .int .i64 st3), (14, .own 24000), (15, .int .i64 (v0_2.length : Int)), (16, .int .i64 st1), (21, .int .i64 s.2.1), (22, .int .i64 st2), (46, .bool false), (51, .cv (undef))] [(1, .box 24 [.int .i64 s.1, .int .i64 s.2.1, .sl (.sl (.int .i64)) s.2.2.1, .sl (.sl (.int .i64)) s.2.2.2]), (24000, .arr 3 (.int .i64) v0_2)] ?_
            refine zB [(1, .bp 1 0), (7, .int .i64 (v0_2.getD st1.toNat 0)), (8, .int .i64 st2), (9, .int .i64 st3), (14, .own 24000), (15, .int .i64 (v0_2.length : Int)), (16, .int .i64 st1), (21, .int .i64 s.2.1), (22, .int .i64 st2), (53, .bool false)] [(1, .box 24 [.int .i64 s.1, .int .i64 s.2.1, .sl (.sl (.int .i64)) s.2.2.1, .sl (.sl (.int .i64)) s.2.2.2]), (24000, .arr 3 (.int .i64) v0_2)] ?_
            refine AW.cond (b := false) rfl (fun hb35 => by cases hb35) (fun _ => ?_)
            refine zm ?_
            refine athen_n ?_
            refine AW.ops ?_
            obtain ⟨c36, h⟩ := ck_some.1 h
            refine zA [(1, .bp 1 0), (7, .int .i64 (v0_2.getD st1.toNat 0)), (8, .int .i64 st2), (9, .int .i64 (st3 + 1)), (14, .own 24000), (15, .int .i64 (v0_2.length : Int)), (16, .int .i64 st1), (21, .int .i64 s.2.1), (22, .int .i64 st2)] [(1, .box 24 [.int .i64 s.1, .int .i64 s.2.1, .sl (.sl (.int .i64)) s.2.2.1, .sl (.sl (.int .i64)) s.2.2.2]), (24000, .arr 3 (.int .i64) v0_2)] ?_
            obtain rfl := Option.some.inj h
            exact ⟨_, rfl, zL [] [] []⟩
          ·refine AW.exit ?_
           refine athen_e ?_
           obtain rfl := Option.some.inj h
           rw [← hd22 _ rfl] at ho21
           have h := ho21
           try simp only at h
           refine athen_e ?_
           refine ablock_s ?_
           refine ablock_n ?_
           refine athen_n ?_
           exact AW.weaken (zL [] [] []) (hk_linealref01_Meddles_k3 () h)
       ·refine AW.exit ?_
        refine athen_e ?_
        obtain rfl := Option.some.inj h
        rw [← hd15 _ rfl] at ho14
        have h := ho14
        try simp only at h
        refine athen_e ?_
        refine ablock_s ?_
        refine ablock_n ?_
        refine athen_n ?_
        exact AW.weaken (zL [] [] []) (hk_linealref01_Meddles_k2 () h)
    ·refine AW.exit ?_
     refine athen_e ?_
     obtain rfl := Option.some.inj h
     rw [← hd6 _ rfl] at ho5
     have h := ho5
     try simp only at h
     refine athen_e ?_
     refine ablock_s ?_
     refine athen_n ?_
     exact AW.weaken (zL [] [] []) (hk_linealref01_Meddles_k1 () h)

end Go.Proofs.Ytcgflignbhmoaaa
