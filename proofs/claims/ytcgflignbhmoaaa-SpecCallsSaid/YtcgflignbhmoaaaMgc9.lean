/-
  Made by wip/tool/dc.py out of the print of the program: contracts.
-/
import Derived.Test.YtcgflignbhmoaaaQp
import Derived.Test.YtcgflignbhmoaaaShs
import Derived.Test.YtcgflignbhmoaaaMgc2
import Derived.Test.YtcgflignbhmoaaaMgc5
import Derived.Test.YtcgflignbhmoaaaMgc7
import Derived.Test.YtcgflignbhmoaaaMgc8
namespace Go.Proofs.Ytcgflignbhmoaaa
open Go.RowKit

set_option linter.unusedSimpArgs false
set_option linter.unusedVariables false
set_option linter.constructorNameAsVariable false

set_option maxRecDepth 100000
set_option maxHeartbeats 2000000

theorem hc_spec_Meddles (s : Int × Int × (List (List Int)) × (List (List Int))) {r : Int × Int × Int × Int} (h : spec_Meddles s = some r) : HC Try.prog 50 [] [.agg [.int .i64 s.1, .int .i64 s.2.1, .sl (.sl (.int .i64)) s.2.2.1, .sl (.sl (.int .i64)) s.2.2.2]] [] (.tup [.int .i64 r.1, .int .i64 r.2.1, .int .i64 r.2.2.1, .int .i64 r.2.2.2]) := by
 unfold spec_Meddles at h
 refine zH Try.func50 [.tmp 2, .tmp 3, .tmp 4, .tmp 5] 48 ?_
 refine zo ?_
 refine zB [(1, .bp 1 0)] [(1, .box 24 [.int .i64 s.1, .int .i64 s.2.1, .sl (.sl (.int .i64)) s.2.2.1, .sl (.sl (.int .i64)) s.2.2.2])] ?_
 refine zo ?_
 refine zS 1 [(12, .agg [.int .i64 s.1, .int .i64 s.2.1, .sl (.sl (.int .i64)) s.2.2.1, .sl (.sl (.int .i64)) s.2.2.2])] [] ?_
 obtain ⟨v0, hv1, h⟩ := Option.bind_eq_some_iff.1 h
 refine zC [] [] (hc_spec_checked s [] hv1) [(13, .tup [.agg [.int .i64 v0.1, .int .i64 v0.2.1, .sl (.sl (.int .i64)) v0.2.2.1, .sl (.sl (.int .i64)) v0.2.2.2.1], .int .i64 v0.2.2.2.2])] [] ?_
 refine zS 5 [(6, .bp 6 0), (15, .int .i64 v0.2.2.2.2)] [(6, .box 60 [.int .i64 v0.1, .int .i64 v0.2.1, .sl (.sl (.int .i64)) v0.2.2.1, .sl (.sl (.int .i64)) v0.2.2.2.1])] ?_
 refine zB [(5, .int .i64 v0.2.2.2.2), (6, .bp 6 0)] [(6, .box 60 [.int .i64 v0.1, .int .i64 v0.2.1, .sl (.sl (.int .i64)) v0.2.2.1, .sl (.sl (.int .i64)) v0.2.2.2.1])] ?_
 refine AW.seq ?_
 refine zo ?_
 refine zB [(5, .int .i64 v0.2.2.2.2), (6, .bp 6 0), (17, .bool (!(decide (v0.2.2.2.2 = 0))))] [(6, .box 60 [.int .i64 v0.1, .int .i64 v0.2.1, .sl (.sl (.int .i64)) v0.2.2.1, .sl (.sl (.int .i64)) v0.2.2.2.1])] ?_
 refine zQ h (fun hb2 h => ?_) (fun hb2 h => ?_)
 ·refine zo ?_
  refine zB [(2, .int .i64 0), (3, .int .i64 0), (4, .int .i64 0), (5, .int .i64 v0.2.2.2.2)] [] ?_
  refine zr ?_
  obtain rfl := Option.some.inj h
  exact zR [] [] []
 ·refine zk ?_
  refine AW.have1 (fun _ : Unit => spec_Meddles_k1 = some r) (fun _ => ⟨fr [], hpGet [], gt⟩) (fun _ h => ?_) (fun hk_spec_Meddles_k1 => ?_)
  ·as_aux_lemma =>
    unfold spec_Meddles_k1 at h
    refine zo ?_
    refine zB [(2, .int .i64 0), (3, .int .i64 0), (4, .int .i64 0), (5, .int .i64 5)] [] ?_
    refine AW.ret ?_
    obtain rfl := Option.some.inj h
    exact zR [] [] []
  ·refine AW.seq ?_
   refine zo ?_
   refine zS 1 [(6, .bp 6 0), (19, .agg [.int .i64 v0.1, .int .i64 v0.2.1, .sl (.sl (.int .i64)) v0.2.2.1, .sl (.sl (.int .i64)) v0.2.2.2.1])] [(6, .box 60 [.int .i64 v0.1, .int .i64 v0.2.1, .sl (.sl (.int .i64)) v0.2.2.1, .sl (.sl (.int .i64)) v0.2.2.2.1])] ?_
   obtain ⟨v0_2, hv3, h⟩ := Option.bind_eq_some_iff.1 h
   refine zC [] [] (hc_spec_machine_reached (v0.1, v0.2.1, v0.2.2.1, v0.2.2.2.1) hv3) [(6, .bp 6 0), (20, .own 30000)] [(6, .box 60 [.int .i64 v0.1, .int .i64 v0.2.1, .sl (.sl (.int .i64)) v0.2.2.1, .sl (.sl (.int .i64)) v0.2.2.2.1]), (30000, .arr 3 (.int .i64) v0_2)] ?_
   refine zB [(6, .bp 6 0), (20, .own 30000), (21, .int .i64 (v0_2.length : Int)), (22, .int .i64 0)] [(6, .box 60 [.int .i64 v0.1, .int .i64 v0.2.1, .sl (.sl (.int .i64)) v0.2.2.1, .sl (.sl (.int .i64)) v0.2.2.2.1]), (30000, .arr 3 (.int .i64) v0_2)] ?_
   refine AW.block ?_
   obtain ⟨rv8, hw4, ho5⟩ := Option.bind_eq_some_iff.1 h
   refine AW.loopO (spec_Meddles_b1 v0 v0_2) (fun st1 => ⟨fr [(6, .bp 6 0), (20, .own 30000), (21, .int .i64 (v0_2.length : Int)), (22, .int .i64 st1)], hpGet [(6, .box 60 [.int .i64 v0.1, .int .i64 v0.2.1, .sl (.sl (.int .i64)) v0.2.2.1, .sl (.sl (.int .i64)) v0.2.2.2.1]), (30000, .arr 3 (.int .i64) v0_2)], gt⟩) 0 hw4 (zL [] [] []) ?_
   as_aux_lemma =>
    intro st1 x7 h hd6
    unfold spec_Meddles_b1 at h
    refine zo ?_
    refine zB [(6, .bp 6 0), (20, .own 30000), (21, .int .i64 (v0_2.length : Int)), (22, .int .i64 st1), (23, .bool (decide (st1 < (v0_2.length : Int))))] [(6, .box 60 [.int .i64 v0.1, .int .i64 v0.2.1, .sl (.sl (.int .i64)) v0.2.2.1, .sl (.sl (.int .i64)) v0.2.2.2.1]), (30000, .arr 3 (.int .i64) v0_2)] ?_
    refine AW.seq ?_
    refine zQ h (fun hb9 h => ?_) (fun hb9 h => ?_)
    ·refine zk ?_
     refine AW.have1 (fun _ : Unit => spec_Meddles_k2 st1 = some x7) (fun _ => ⟨fr [(6, .bp 6 0), (20, .own 30000), (21, .int .i64 (v0_2.length : Int)), (22, .int .i64 st1)], hpGet [(6, .box 60 [.int .i64 v0.1, .int .i64 v0.2.1, .sl (.sl (.int .i64)) v0.2.2.1, .sl (.sl (.int .i64)) v0.2.2.2.1]), (30000, .arr 3 (.int .i64) v0_2)], gt⟩) (fun _ h => ?_) (fun hk_spec_Meddles_k2 => ?_)
     ·as_aux_lemma =>
       unfold spec_Meddles_k2 at h
       refine AW.ops ?_
       obtain ⟨c10, h⟩ := ck_some.1 h
       refine zA [(6, .bp 6 0), (20, .own 30000), (21, .int .i64 (v0_2.length : Int)), (22, .int .i64 (st1 + 1))] [(6, .box 60 [.int .i64 v0.1, .int .i64 v0.2.1, .sl (.sl (.int .i64)) v0.2.2.1, .sl (.sl (.int .i64)) v0.2.2.2.1]), (30000, .arr 3 (.int .i64) v0_2)] ?_
       obtain rfl := Option.some.inj h
       exact ⟨_, rfl, zL [] [] []⟩
     ·refine AW.seq ?_
      refine AW.block ?_
      refine zo ?_
      obtain ⟨c11, h⟩ := ck_some.1 h
      obtain ⟨c12, h⟩ := ck_some.1 h
      refine zB [(6, .bp 6 0), (8, .int .i64 (v0_2.getD st1.toNat 0)), (20, .own 30000), (21, .int .i64 (v0_2.length : Int)), (22, .int .i64 st1)] [(6, .box 60 [.int .i64 v0.1, .int .i64 v0.2.1, .sl (.sl (.int .i64)) v0.2.2.1, .sl (.sl (.int .i64)) v0.2.2.2.1]), (30000, .arr 3 (.int .i64) v0_2)] ?_
      refine zo ?_
      refine zB [(6, .bp 6 0), (8, .int .i64 (v0_2.getD st1.toNat 0)), (20, .own 30000), (21, .int .i64 (v0_2.length : Int)), (22, .int .i64 st1), (27, .int .i64 v0.2.1), (28, .int .i64 0)] [(6, .box 60 [.int .i64 v0.1, .int .i64 v0.2.1, .sl (.sl (.int .i64)) v0.2.2.1, .sl (.sl (.int .i64)) v0.2.2.2.1]), (30000, .arr 3 (.int .i64) v0_2)] ?_
      refine AW.block ?_
      obtain ⟨rv17, hw13, ho14⟩ := Option.bind_eq_some_iff.1 h
      refine AW.loopO (spec_Meddles_b2 v0 v0_2 st1) (fun st2 => ⟨fr [(6, .bp 6 0), (8, .int .i64 (v0_2.getD st1.toNat 0)), (20, .own 30000), (21, .int .i64 (v0_2.length : Int)), (22, .int .i64 st1), (27, .int .i64 v0.2.1), (28, .int .i64 st2)], hpGet [(6, .box 60 [.int .i64 v0.1, .int .i64 v0.2.1, .sl (.sl (.int .i64)) v0.2.2.1, .sl (.sl (.int .i64)) v0.2.2.2.1]), (30000, .arr 3 (.int .i64) v0_2)], gt⟩) 0 hw13 (zL [] [] []) ?_
      as_aux_lemma =>
       intro st2 x16 h hd15
       unfold spec_Meddles_b2 at h
       refine zo ?_
       refine zB [(6, .bp 6 0), (8, .int .i64 (v0_2.getD st1.toNat 0)), (20, .own 30000), (21, .int .i64 (v0_2.length : Int)), (22, .int .i64 st1), (27, .int .i64 v0.2.1), (28, .int .i64 st2), (29, .bool (decide (st2 < v0.2.1)))] [(6, .box 60 [.int .i64 v0.1, .int .i64 v0.2.1, .sl (.sl (.int .i64)) v0.2.2.1, .sl (.sl (.int .i64)) v0.2.2.2.1]), (30000, .arr 3 (.int .i64) v0_2)] ?_
       refine AW.seq ?_
       refine zQ h (fun hb18 h => ?_) (fun hb18 h => ?_)
       ·refine zk ?_
        refine AW.have1 (fun _ : Unit => spec_Meddles_k3 st2 = some x16) (fun _ => ⟨fr [(6, .bp 6 0), (8, .int .i64 (v0_2.getD st1.toNat 0)), (20, .own 30000), (21, .int .i64 (v0_2.length : Int)), (22, .int .i64 st1), (27, .int .i64 v0.2.1), (28, .int .i64 st2)], hpGet [(6, .box 60 [.int .i64 v0.1, .int .i64 v0.2.1, .sl (.sl (.int .i64)) v0.2.2.1, .sl (.sl (.int .i64)) v0.2.2.2.1]), (30000, .arr 3 (.int .i64) v0_2)], gt⟩) (fun _ h => ?_) (fun hk_spec_Meddles_k3 => ?_)
        ·as_aux_lemma =>
          unfold spec_Meddles_k3 at h
          refine AW.ops ?_
          obtain ⟨c19, h⟩ := ck_some.1 h
          refine zA [(6, .bp 6 0), (8, .int .i64 (v0_2.getD st1.toNat 0)), (20, .own 30000), (21, .int .i64 (v0_2.length : Int)), (22, .int .i64 st1), (27, .int .i64 v0.2.1), (28, .int .i64 (st2 + 1))] [(6, .box 60 [.int .i64 v0.1, .int .i64 v0.2.1, .sl (.sl (.int .i64)) v0.2.2.1, .sl (.sl (.int .i64)) v0.2.2.2.1]), (30000, .arr 3 (.int .i64) v0_2)] ?_
          obtain rfl := Option.some.inj h
          exact ⟨_, rfl, zL [] [] []⟩
        ·refine AW.seq ?_
         refine AW.block ?_
         refine zo ?_
         refine zB [(6, .bp 6 0), (8, .int .i64 (v0_2.getD st1.toNat 0)), (9, .int .i64 st2), (20, .own 30000), (21, .int .i64 (v0_2.length : Int)), (22, .int .i64 st1), (27, .int .i64 v0.2.1), (28, .int .i64 st2)] [(6, .box 60 [.int .i64 v0.1, .int .i64 v0.2.1, .sl (.sl (.int .i64)) v0.2.2.1, .sl (.sl (.int .i64)) v0.2.2.2.1]), (30000, .arr 3 (.int .i64) v0_2)] ?_
         refine zo ?_
         refine zB [(6, .bp 6 0), (8, .int .i64 (v0_2.getD st1.toNat 0)), (9, .int .i64 st2), (10, .int .i64 st2), (20, .own 30000), (21, .int .i64 (v0_2.length : Int)), (22, .int .i64 st1), (27, .int .i64 v0.2.1), (28, .int .i64 st2)] [(6, .box 60 [.int .i64 v0.1, .int .i64 v0.2.1, .sl (.sl (.int .i64)) v0.2.2.1, .sl (.sl (.int .i64)) v0.2.2.2.1]), (30000, .arr 3 (.int .i64) v0_2)] ?_
         refine AW.block ?_
         obtain ⟨rv24, hw20, ho21⟩ := Option.bind_eq_some_iff.1 h
         refine AW.loopO (spec_Meddles_b3 v0 v0_2 st1 st2) (fun st3 => ⟨fr [(6, .bp 6 0), (8, .int .i64 (v0_2.getD st1.toNat 0)), (9, .int .i64 st2), (10, .int .i64 st3), (20, .own 30000), (21, .int .i64 (v0_2.length : Int)), (22, .int .i64 st1), (27, .int .i64 v0.2.1), (28, .int .i64 st2)], hpGet [(6, .box 60 [.int .i64 v0.1, .int .i64 v0.2.1, .sl (.sl (.int .i64)) v0.2.2.1, .sl (.sl (.int .i64)) v0.2.2.2.1]), (30000, .arr 3 (.int .i64) v0_2)], gt⟩) st2 hw20 (zL [] [] []) ?_
         as_aux_lemma =>
          intro st3 x23 h hd22
          unfold spec_Meddles_b3 at h
          refine AW.seq ?_
          refine zo ?_
          refine zB [(6, .bp 6 0), (8, .int .i64 (v0_2.getD st1.toNat 0)), (9, .int .i64 st2), (10, .int .i64 st3), (20, .own 30000), (21, .int .i64 (v0_2.length : Int)), (22, .int .i64 st1), (27, .int .i64 v0.2.1), (28, .int .i64 st2), (35, .bool (decide (st3 < v0.2.1)))] [(6, .box 60 [.int .i64 v0.1, .int .i64 v0.2.1, .sl (.sl (.int .i64)) v0.2.2.1, .sl (.sl (.int .i64)) v0.2.2.2.1]), (30000, .arr 3 (.int .i64) v0_2)] ?_
          refine zQ h (fun hb25 h => ?_) (fun hb25 h => ?_)
          ·refine zk ?_
           refine AW.seq ?_
           refine AW.block ?_
           refine zo ?_
           refine zS 4 [(6, .bp 6 0), (8, .int .i64 (v0_2.getD st1.toNat 0)), (9, .int .i64 st2), (10, .int .i64 st3), (20, .own 30000), (21, .int .i64 (v0_2.length : Int)), (22, .int .i64 st1), (27, .int .i64 v0.2.1), (28, .int .i64 st2), (38, .agg [.int .i64 v0.1, .int .i64 v0.2.1, .sl (.sl (.int .i64)) v0.2.2.1, .sl (.sl (.int .i64)) v0.2.2.2.1]), (39, .int .i64 (v0_2.getD st1.toNat 0)), (40, .int .i64 st2), (41, .int .i64 st3)] [(6, .box 60 [.int .i64 v0.1, .int .i64 v0.2.1, .sl (.sl (.int .i64)) v0.2.2.1, .sl (.sl (.int .i64)) v0.2.2.2.1]), (30000, .arr 3 (.int .i64) v0_2)] ?_
           obtain ⟨v0_3, hv26, h⟩ := Option.bind_eq_some_iff.1 h
           refine zC [] [] (hc_spec_machine_meddle (v0.1, v0.2.1, v0.2.2.1, v0.2.2.2.1) (v0_2.getD st1.toNat 0) st2 st3 hv26) [(6, .bp 6 0), (8, .int .i64 (v0_2.getD st1.toNat 0)), (9, .int .i64 st2), (10, .int .i64 st3), (20, .own 30000), (21, .int .i64 (v0_2.length : Int)), (22, .int .i64 st1), (27, .int .i64 v0.2.1), (28, .int .i64 st2), (42, .bool v0_3)] [(6, .box 60 [.int .i64 v0.1, .int .i64 v0.2.1, .sl (.sl (.int .i64)) v0.2.2.1, .sl (.sl (.int .i64)) v0.2.2.2.1]), (30000, .arr 3 (.int .i64) v0_2)] ?_
           refine zB [(6, .bp 6 0), (8, .int .i64 (v0_2.getD st1.toNat 0)), (9, .int .i64 st2), (10, .int .i64 st3), (20, .own 30000), (21, .int .i64 (v0_2.length : Int)), (22, .int .i64 st1), (27, .int .i64 v0.2.1), (28, .int .i64 st2), (42, .bool v0_3)] [(6, .box 60 [.int .i64 v0.1, .int .i64 v0.2.1, .sl (.sl (.int .i64)) v0.2.2.1, .sl (.sl (.int .i64)) v0.2.2.2.1]), (30000, .arr 3 (.int .i64) v0_2)] ?_
           refine zQ h (fun hb27 h => ?_) (fun hb27 h => ?_)
           ·refine zo ?_
            refine zS 5 [(2, .int .i64 (v0_2.getD st1.toNat 0)), (3, .int .i64 st2), (45, .int .i64 st3)] [] ?_
            refine zB [(2, .int .i64 (v0_2.getD st1.toNat 0)), (3, .int .i64 st2), (4, .int .i64 st3), (5, .int .i64 0)] [] ?_
            refine AW.ret ?_
            refine ablock_r ?_
            refine athen_r ?_
            obtain rfl := Option.some.inj h
            rw [← hd22 _ rfl] at ho21
            have h := ho21
            try simp only at h
            refine athen_r ?_
            refine ablock_r ?_
            refine ablock_r ?_
            refine athen_r ?_
            obtain rfl := Option.some.inj h
            rw [← hd15 _ rfl] at ho14
            have h := ho14
            try simp only at h
            refine athen_r ?_
            refine ablock_r ?_
            refine ablock_r ?_
            refine athen_r ?_
            obtain rfl := Option.some.inj h
            rw [← hd6 _ rfl] at ho5
            have h := ho5
            try simp only at h
            refine athen_r ?_
            refine ablock_r ?_
            refine athen_r ?_
            obtain rfl := Option.some.inj h
            exact zR [] [] []
           ·refine zm ?_
            refine athen_n ?_
            refine AW.ops ?_
            obtain ⟨c28, h⟩ := ck_some.1 h
            refine zA [(6, .bp 6 0), (8, .int .i64 (v0_2.getD st1.toNat 0)), (9, .int .i64 st2), (10, .int .i64 (st3 + 1)), (20, .own 30000), (21, .int .i64 (v0_2.length : Int)), (22, .int .i64 st1), (27, .int .i64 v0.2.1), (28, .int .i64 st2)] [(6, .box 60 [.int .i64 v0.1, .int .i64 v0.2.1, .sl (.sl (.int .i64)) v0.2.2.1, .sl (.sl (.int .i64)) v0.2.2.2.1]), (30000, .arr 3 (.int .i64) v0_2)] ?_
            obtain rfl := Option.some.inj h
            exact ⟨_, rfl, zL [] [] []⟩
          ·refine AW.exit ?_
           refine athen_e ?_
           obtain rfl := Option.some.inj h
           rw [← hd22 _ rfl] at ho21
           have h := ho21
           try simp only at h
           refine athen_e ?_
           refine ablock_s ?_
           refine ablock_n ?_
           refine athen_n ?_
           exact AW.weaken (zL [] [] []) (hk_spec_Meddles_k3 () h)
       ·refine AW.exit ?_
        refine athen_e ?_
        obtain rfl := Option.some.inj h
        rw [← hd15 _ rfl] at ho14
        have h := ho14
        try simp only at h
        refine athen_e ?_
        refine ablock_s ?_
        refine ablock_n ?_
        refine athen_n ?_
        exact AW.weaken (zL [] [] []) (hk_spec_Meddles_k2 () h)
    ·refine AW.exit ?_
     refine athen_e ?_
     obtain rfl := Option.some.inj h
     rw [← hd6 _ rfl] at ho5
     have h := ho5
     try simp only at h
     refine athen_e ?_
     refine ablock_s ?_
     refine athen_n ?_
     exact AW.weaken (zL [] [] []) (hk_spec_Meddles_k1 () h)

theorem hc_spec_told_2 (s : Int × Int × (List (List Int)) × (List (List Int))) (state : Int) (a : Int) (b : Int) {r : Bool × Int} (h : spec_told_2 s state a b = some r) : HC Try.prog 84 [] [.agg [.int .i64 s.1, .int .i64 s.2.1, .sl (.sl (.int .i64)) s.2.2.1, .sl (.sl (.int .i64)) s.2.2.2], .fn (.func 88) [] [], .int .i64 state, .int .i64 a, .int .i64 b] [] (.tup [.bool r.1, .int .i64 r.2]) := by
 unfold spec_told_2 at h
 refine zH Try.func84 [.tmp 10, .tmp 11] 37 ?_
 refine zo ?_
 refine zB [(1, .fn (.func 88) [] []), (2, .int .i64 state), (3, .int .i64 a), (4, .int .i64 b), (5, .bp 5 0)] [(5, .box 24 [.int .i64 s.1, .int .i64 s.2.1, .sl (.sl (.int .i64)) s.2.2.1, .sl (.sl (.int .i64)) s.2.2.2])] ?_
 refine zo ?_
 refine zS 3 [(1, .fn (.func 88) [] []), (2, .int .i64 state), (3, .int .i64 a), (4, .int .i64 b), (15, .agg [.int .i64 s.1, .int .i64 s.2.1, .sl (.sl (.int .i64)) s.2.2.1, .sl (.sl (.int .i64)) s.2.2.2]), (17, .own 17)] [(17, .arr 3 (.int .i64) [state])] ?_
 obtain ⟨v0, hv1, h⟩ := Option.bind_eq_some_iff.1 h
 refine zC [17] [] (hc_spec_checked s [state] hv1) [(1, .fn (.func 88) [] []), (2, .int .i64 state), (3, .int .i64 a), (4, .int .i64 b), (18, .tup [.agg [.int .i64 v0.1, .int .i64 v0.2.1, .sl (.sl (.int .i64)) v0.2.2.1, .sl (.sl (.int .i64)) v0.2.2.2.1], .int .i64 v0.2.2.2.2])] [] ?_
 refine zS 5 [(1, .fn (.func 88) [] []), (2, .int .i64 state), (3, .int .i64 a), (4, .int .i64 b), (12, .bp 12 0), (20, .int .i64 v0.2.2.2.2)] [(12, .box 60 [.int .i64 v0.1, .int .i64 v0.2.1, .sl (.sl (.int .i64)) v0.2.2.1, .sl (.sl (.int .i64)) v0.2.2.2.1])] ?_
 refine zB [(1, .fn (.func 88) [] []), (2, .int .i64 state), (3, .int .i64 a), (4, .int .i64 b), (12, .bp 12 0), (13, .int .i64 v0.2.2.2.2)] [(12, .box 60 [.int .i64 v0.1, .int .i64 v0.2.1, .sl (.sl (.int .i64)) v0.2.2.1, .sl (.sl (.int .i64)) v0.2.2.2.1])] ?_
 refine AW.seq ?_
 refine zo ?_
 refine zB [(1, .fn (.func 88) [] []), (2, .int .i64 state), (3, .int .i64 a), (4, .int .i64 b), (12, .bp 12 0), (13, .int .i64 v0.2.2.2.2), (22, .bool (!(decide (v0.2.2.2.2 = 0))))] [(12, .box 60 [.int .i64 v0.1, .int .i64 v0.2.1, .sl (.sl (.int .i64)) v0.2.2.1, .sl (.sl (.int .i64)) v0.2.2.2.1])] ?_
 refine zQ h (fun hb2 h => ?_) (fun hb2 h => ?_)
 ·refine zo ?_
  refine zB [(10, .bool false), (11, .int .i64 v0.2.2.2.2)] [] ?_
  refine zr ?_
  obtain rfl := Option.some.inj h
  exact zR [] [] []
 ·refine zk ?_
  refine AW.seq ?_
  refine zo ?_
  refine zS 5 [(1, .fn (.func 88) [] []), (2, .int .i64 state), (3, .int .i64 a), (4, .int .i64 b), (12, .bp 12 0), (25, .fn (.func 90) [.agg [.int .i64 v0.1, .int .i64 v0.2.1, .sl (.sl (.int .i64)) v0.2.2.1, .sl (.sl (.int .i64)) v0.2.2.2.1]] []), (28, .own 28)] [(12, .box 60 [.int .i64 v0.1, .int .i64 v0.2.1, .sl (.sl (.int .i64)) v0.2.2.1, .sl (.sl (.int .i64)) v0.2.2.2.1]), (28, .arr 3 (.int .i64) [a, b])] ?_
  obtain ⟨v0_2, hv3, h⟩ := Option.bind_eq_some_iff.1 h
  refine zC [28] [] (hc_spec_all_3 (v0.1, v0.2.1, v0.2.2.1, v0.2.2.2.1) [a, b] hv3) [(1, .fn (.func 88) [] []), (2, .int .i64 state), (3, .int .i64 a), (4, .int .i64 b), (12, .bp 12 0), (29, .bool v0_2)] [(12, .box 60 [.int .i64 v0.1, .int .i64 v0.2.1, .sl (.sl (.int .i64)) v0.2.2.1, .sl (.sl (.int .i64)) v0.2.2.2.1])] ?_
  refine zB [(1, .fn (.func 88) [] []), (2, .int .i64 state), (3, .int .i64 a), (4, .int .i64 b), (12, .bp 12 0), (30, .bool (!v0_2))] [(12, .box 60 [.int .i64 v0.1, .int .i64 v0.2.1, .sl (.sl (.int .i64)) v0.2.2.1, .sl (.sl (.int .i64)) v0.2.2.2.1])] ?_
  refine zQ h (fun hb4 h => ?_) (fun hb4 h => ?_)
  ·refine zo ?_
   refine zB [(10, .bool false), (11, .int .i64 2)] [] ?_
   refine zr ?_
   obtain rfl := Option.some.inj h
   exact zR [] [] []
  ·refine zk ?_
   refine zo ?_
   refine zS 5 [(31, .fn (.func 88) [] []), (32, .agg [.int .i64 v0.1, .int .i64 v0.2.1, .sl (.sl (.int .i64)) v0.2.2.1, .sl (.sl (.int .i64)) v0.2.2.2.1]), (33, .int .i64 state), (34, .int .i64 a), (35, .int .i64 b)] [] ?_
   obtain ⟨v0_3, hv5, h⟩ := Option.bind_eq_some_iff.1 h
   refine zC [] [] (hc_spec_machine_overwrites (v0.1, v0.2.1, v0.2.2.1, v0.2.2.2.1) state a b hv5) [(36, .bool v0_3)] [] ?_
   refine zB [(10, .bool v0_3), (11, .int .i64 0)] [] ?_
   refine AW.ret ?_
   obtain rfl := Option.some.inj h
   exact zR [] [] []

theorem hc_spec_Overwrites (s : Int × Int × (List (List Int)) × (List (List Int))) (state : Int) (a : Int) (b : Int) {r : Bool × Int} (h : spec_Overwrites s state a b = some r) : HC Try.prog 46 [] [.agg [.int .i64 s.1, .int .i64 s.2.1, .sl (.sl (.int .i64)) s.2.2.1, .sl (.sl (.int .i64)) s.2.2.2], .int .i64 state, .int .i64 a, .int .i64 b] [] (.tup [.bool r.1, .int .i64 r.2]) := by
 unfold spec_Overwrites at h
 refine zH Try.func46 [.tmp 8, .tmp 9] 17 ?_
 refine zo ?_
 refine zB [(1, .int .i64 state), (2, .int .i64 a), (3, .int .i64 b), (4, .bp 4 0)] [(4, .box 24 [.int .i64 s.1, .int .i64 s.2.1, .sl (.sl (.int .i64)) s.2.2.1, .sl (.sl (.int .i64)) s.2.2.2])] ?_
 refine zo ?_
 refine zS 4 [(10, .agg [.int .i64 s.1, .int .i64 s.2.1, .sl (.sl (.int .i64)) s.2.2.1, .sl (.sl (.int .i64)) s.2.2.2]), (11, .int .i64 state), (12, .int .i64 a), (13, .int .i64 b)] [] ?_
 obtain ⟨v0, hv1, h⟩ := Option.bind_eq_some_iff.1 h
 refine zC [] [] (hc_spec_told_2 s state a b hv1) [(14, .tup [.bool v0.1, .int .i64 v0.2])] [] ?_
 refine zB [(8, .bool v0.1), (9, .int .i64 v0.2)] [] ?_
 refine AW.ret ?_
 obtain rfl := Option.some.inj h
 exact zR [] [] []

theorem hc_linealref01_calls (s : Int × Int × (List (List Int)) × (List (List Int))) (state : Int) (a : Int) (b : Int) {r : Int} (h : linealref01_calls s state a b = some r) : HC Try.prog 86 [] [.agg [.int .i64 s.1, .int .i64 s.2.1, .sl (.sl (.int .i64)) s.2.2.1, .sl (.sl (.int .i64)) s.2.2.2], .int .i64 state, .int .i64 a, .int .i64 b] [] (.int .i64 r) := by
 unfold linealref01_calls at h
 refine zH Try.func86 [.tmp 8] 29 ?_
 refine zo ?_
 refine zB [(1, .int .i64 state), (2, .int .i64 a), (3, .int .i64 b), (4, .bp 4 0)] [(4, .box 24 [.int .i64 s.1, .int .i64 s.2.1, .sl (.sl (.int .i64)) s.2.2.1, .sl (.sl (.int .i64)) s.2.2.2])] ?_
 refine zo ?_
 refine zS 3 [(2, .int .i64 a), (3, .int .i64 b), (4, .bp 4 0), (10, .agg [.int .i64 s.1, .int .i64 s.2.1, .sl (.sl (.int .i64)) s.2.2.1, .sl (.sl (.int .i64)) s.2.2.2]), (11, .int .i64 state), (12, .int .i64 state)] [(4, .box 24 [.int .i64 s.1, .int .i64 s.2.1, .sl (.sl (.int .i64)) s.2.2.1, .sl (.sl (.int .i64)) s.2.2.2])] ?_
 obtain ⟨v0, hv1, h⟩ := Option.bind_eq_some_iff.1 h
 refine zC [] [] (hc_linealref01_asked s state state hv1) [(2, .int .i64 a), (3, .int .i64 b), (4, .bp 4 0), (13, .int .i64 v0)] [(4, .box 24 [.int .i64 s.1, .int .i64 s.2.1, .sl (.sl (.int .i64)) s.2.2.1, .sl (.sl (.int .i64)) s.2.2.2])] ?_
 refine zB [(2, .int .i64 a), (3, .int .i64 b), (4, .bp 4 0), (9, .int .i64 v0)] [(4, .box 24 [.int .i64 s.1, .int .i64 s.2.1, .sl (.sl (.int .i64)) s.2.2.1, .sl (.sl (.int .i64)) s.2.2.2])] ?_
 refine AW.seq ?_
 refine zo ?_
 refine zS 3 [(2, .int .i64 a), (3, .int .i64 b), (4, .bp 4 0), (9, .int .i64 v0), (16, .bool (decide (v0 = 0)))] [(4, .box 24 [.int .i64 s.1, .int .i64 s.2.1, .sl (.sl (.int .i64)) s.2.2.1, .sl (.sl (.int .i64)) s.2.2.2])] ?_
 rcases zI h with ⟨hb2, h⟩ | ⟨hb2, h⟩
 ·refine zS 2 [(3, .int .i64 b), (4, .bp 4 0), (9, .int .i64 v0), (16, .bool true), (17, .agg [.int .i64 s.1, .int .i64 s.2.1, .sl (.sl (.int .i64)) s.2.2.1, .sl (.sl (.int .i64)) s.2.2.2]), (18, .int .i64 a)] [(4, .box 24 [.int .i64 s.1, .int .i64 s.2.1, .sl (.sl (.int .i64)) s.2.2.1, .sl (.sl (.int .i64)) s.2.2.2])] ?_
  obtain ⟨v0_2, hv3, h⟩ := Option.bind_eq_some_iff.1 h
  refine zG [] [] (hc_linealref01_IsOp s a hv3) [(3, .int .i64 b), (4, .bp 4 0), (9, .int .i64 v0), (16, .bool true), (19, .bool v0_2)] [(4, .box 24 [.int .i64 s.1, .int .i64 s.2.1, .sl (.sl (.int .i64)) s.2.2.1, .sl (.sl (.int .i64)) s.2.2.2])] ?_
  refine zS 2 [(3, .int .i64 b), (4, .bp 4 0), (9, .int .i64 v0), (16, .bool true), (21, .bool (!v0_2))] [(4, .box 24 [.int .i64 s.1, .int .i64 s.2.1, .sl (.sl (.int .i64)) s.2.2.1, .sl (.sl (.int .i64)) s.2.2.2])] ?_
  rcases zI h with ⟨hb4, h⟩ | ⟨hb4, h⟩
  ·refine zS 4 [(9, .int .i64 v0), (16, .bool true), (21, .bool true), (25, .cv (undef))] [] ?_
   refine zB [(9, .int .i64 v0), (27, .bool true)] [] ?_
   refine AW.cond (b := true) rfl (fun _ => ?_) (fun hb5 => by cases hb5)
   refine AW.ops ?_
   refine zB [(9, .int .i64 2)] [] ?_
   refine zo ?_
   refine zB [(8, .int .i64 2)] [] ?_
   refine AW.ret ?_
   obtain rfl := Option.some.inj h
   exact zR [] [] []
  ·refine zS 2 [(9, .int .i64 v0), (16, .bool true), (21, .bool false), (22, .agg [.int .i64 s.1, .int .i64 s.2.1, .sl (.sl (.int .i64)) s.2.2.1, .sl (.sl (.int .i64)) s.2.2.2]), (23, .int .i64 b)] [] ?_
   obtain ⟨v0_3, hv6, h⟩ := Option.bind_eq_some_iff.1 h
   refine zG [] [] (hc_linealref01_IsOp s b hv6) [(9, .int .i64 v0), (16, .bool true), (21, .bool false), (24, .bool v0_3)] [] ?_
   refine zB [(9, .int .i64 v0), (27, .bool (!v0_3))] [] ?_
   refine zQ h (fun hb7 h => ?_) (fun hb7 h => ?_)
   ·refine AW.ops ?_
    refine zB [(9, .int .i64 2)] [] ?_
    refine zo ?_
    refine zB [(8, .int .i64 2)] [] ?_
    refine AW.ret ?_
    obtain rfl := Option.some.inj h
    exact zR [] [] []
   ·refine zk ?_
    refine zo ?_
    refine zB [(8, .int .i64 v0)] [] ?_
    refine AW.ret ?_
    obtain rfl := Option.some.inj h
    exact zR [] [] []
 ·refine zS 4 [(3, .int .i64 b), (4, .bp 4 0), (9, .int .i64 v0), (16, .bool false), (20, .cv (undef))] [(4, .box 24 [.int .i64 s.1, .int .i64 s.2.1, .sl (.sl (.int .i64)) s.2.2.1, .sl (.sl (.int .i64)) s.2.2.2])] ?_
  refine zS 4 [(9, .int .i64 v0), (16, .bool false), (21, .cv (undef)), (24, .cv (undef))] [] ?_
  refine zB [(9, .int .i64 v0), (27, .bool false)] [] ?_
  refine AW.cond (b := false) rfl (fun hb8 => by cases hb8) (fun _ => ?_)
  refine zk ?_
  refine zo ?_
  refine zB [(8, .int .i64 v0)] [] ?_
  refine AW.ret ?_
  obtain rfl := Option.some.inj h
  exact zR [] [] []

end Go.Proofs.Ytcgflignbhmoaaa
