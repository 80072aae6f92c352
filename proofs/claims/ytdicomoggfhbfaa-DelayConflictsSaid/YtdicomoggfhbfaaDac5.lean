/-
  Made by wip/tool/dc.py out of the print of the program: contracts.
-/
import Derived.Test.YtdicomoggfhbfaaDlp
import Derived.Test.YtdicomoggfhbfaaShd
import Derived.Test.YtdicomoggfhbfaaDac1
import Derived.Test.YtdicomoggfhbfaaDac2
import Derived.Test.YtdicomoggfhbfaaDac4
namespace Go.Proofs.Ytdicomoggfhbfaa
open Go.RowKit

set_option linter.unusedSimpArgs false
set_option linter.unusedVariables false
set_option linter.constructorNameAsVariable false

set_option maxRecDepth 100000
set_option maxHeartbeats 40000000

theorem hc_delay_Conflicts (x0 : List (List (Int × Bool))) {r : Int × Int} (h : delay_Conflicts x0 = some r) : HC Try.prog 19 [] [.sl (.sl (.pair (.int .i64) .bool)) x0] [] (.tup [.int .i64 r.1, .int .i64 r.2]) := by
 unfold delay_Conflicts at h
 refine zH Try.func19 [.tmp 2, .tmp 3] 60 ?_
 refine zo ?_
 refine zB [(0, .sl (.sl (.pair (.int .i64) .bool)) x0)] [] ?_
 refine zo ?_
 refine zS 1 [(14, .sl (.sl (.pair (.int .i64) .bool)) x0)] [] ?_
 obtain ⟨v0, hv1, h⟩ := Option.bind_eq_some_iff.1 h
 refine zC [] [] (hc_delay_accessesOf x0 hv1) [(15, .tup [.sl (.sl (.pair (.int .i64) .bool)) v0.1, .int .i64 v0.2])] [] ?_
 refine zB [(4, .sl (.sl (.pair (.int .i64) .bool)) v0.1), (5, .int .i64 v0.2)] [] ?_
 refine AW.seq ?_
 refine zo ?_
 refine zB [(4, .sl (.sl (.pair (.int .i64) .bool)) v0.1), (5, .int .i64 v0.2), (19, .bool (!(decide (v0.2 = 0))))] [] ?_
 refine zQ h (fun hb2 h => ?_) (fun hb2 h => ?_)
 ·refine zo ?_
  refine zB [(2, .int .i64 0), (3, .int .i64 v0.2)] [] ?_
  refine zr ?_
  obtain rfl := Option.some.inj h
  exact zR [] [] []
 ·refine zk ?_
  refine zo ?_
  refine zB [(4, .sl (.sl (.pair (.int .i64) .bool)) v0.1), (6, .int .i64 0)] [] ?_
  refine AW.have1 (fun b4_4 : Int => delay_Conflicts_k1 b4_4 = some r) (fun b4_4 => ⟨fr [(6, .int .i64 b4_4)], hpGet [], gt⟩) (fun b4_4 h => ?_) (fun hk_delay_Conflicts_k1 => ?_)
  ·as_aux_lemma =>
    unfold delay_Conflicts_k1 at h
    refine zo ?_
    refine zB [(2, .int .i64 b4_4), (3, .int .i64 0)] [] ?_
    refine AW.ret ?_
    obtain rfl := Option.some.inj h
    exact zR [] [] []
  ·refine AW.seq ?_
   refine zo ?_
   refine zB [(4, .sl (.sl (.pair (.int .i64) .bool)) v0.1), (6, .int .i64 0), (21, .sl (.sl (.pair (.int .i64) .bool)) v0.1), (22, .int .i64 (v0.1.length : Int)), (23, .int .i64 0)] [] ?_
   refine AW.block ?_
   obtain ⟨rv7, hw3, ho4⟩ := Option.bind_eq_some_iff.1 h
   refine AW.loopO (delay_Conflicts_b1 v0) (fun st1 => ⟨fr [(4, .sl (.sl (.pair (.int .i64) .bool)) v0.1), (6, .int .i64 st1.1), (21, .sl (.sl (.pair (.int .i64) .bool)) v0.1), (22, .int .i64 (v0.1.length : Int)), (23, .int .i64 st1.2)], hpGet [], gt⟩) (0, 0) hw3 (zL [] [] []) ?_
   as_aux_lemma =>
    intro st1 x6 h hd5
    unfold delay_Conflicts_b1 at h
    refine zo ?_
    refine zB [(4, .sl (.sl (.pair (.int .i64) .bool)) v0.1), (6, .int .i64 st1.1), (21, .sl (.sl (.pair (.int .i64) .bool)) v0.1), (22, .int .i64 (v0.1.length : Int)), (23, .int .i64 st1.2), (24, .bool (decide (st1.2 < (v0.1.length : Int))))] [] ?_
    refine AW.seq ?_
    refine zQ h (fun hb8 h => ?_) (fun hb8 h => ?_)
    ·refine zk ?_
     refine AW.have1 (fun b4_3 : Int => delay_Conflicts_k2 st1 b4_3 = some x6) (fun b4_3 => ⟨fr [(4, .sl (.sl (.pair (.int .i64) .bool)) v0.1), (6, .int .i64 b4_3), (21, .sl (.sl (.pair (.int .i64) .bool)) v0.1), (22, .int .i64 (v0.1.length : Int)), (23, .int .i64 st1.2)], hpGet [], gt⟩) (fun b4_3 h => ?_) (fun hk_delay_Conflicts_k2 => ?_)
     ·as_aux_lemma =>
       unfold delay_Conflicts_k2 at h
       refine AW.ops ?_
       obtain ⟨c9, h⟩ := ck_some.1 h
       refine zA [(4, .sl (.sl (.pair (.int .i64) .bool)) v0.1), (6, .int .i64 b4_3), (21, .sl (.sl (.pair (.int .i64) .bool)) v0.1), (22, .int .i64 (v0.1.length : Int)), (23, .int .i64 (st1.2 + 1))] [] ?_
       obtain rfl := Option.some.inj h
       exact ⟨_, rfl, zL [] [] []⟩
     ·refine AW.seq ?_
      refine AW.block ?_
      refine zo ?_
      obtain ⟨c10, h⟩ := ck_some.1 h
      obtain ⟨c11, h⟩ := ck_some.1 h
      refine zB [(4, .sl (.sl (.pair (.int .i64) .bool)) v0.1), (6, .int .i64 st1.1), (7, .int .i64 st1.2), (8, .sl (.pair (.int .i64) .bool) (v0.1.getD st1.2.toNat [])), (21, .sl (.sl (.pair (.int .i64) .bool)) v0.1), (22, .int .i64 (v0.1.length : Int)), (23, .int .i64 st1.2)] [] ?_
      refine zo ?_
      refine zB [(4, .sl (.sl (.pair (.int .i64) .bool)) v0.1), (6, .int .i64 st1.1), (7, .int .i64 st1.2), (21, .sl (.sl (.pair (.int .i64) .bool)) v0.1), (22, .int .i64 (v0.1.length : Int)), (23, .int .i64 st1.2), (29, .int .i64 ((v0.1.getD st1.2.toNat []).length : Int)), (30, .int .i64 0)] [] ?_
      refine AW.block ?_
      obtain ⟨rv16, hw12, ho13⟩ := Option.bind_eq_some_iff.1 h
      refine AW.loopO (delay_Conflicts_b2 v0 st1) (fun st2 => ⟨fr [(4, .sl (.sl (.pair (.int .i64) .bool)) v0.1), (6, .int .i64 st2.1), (7, .int .i64 st1.2), (21, .sl (.sl (.pair (.int .i64) .bool)) v0.1), (22, .int .i64 (v0.1.length : Int)), (23, .int .i64 st1.2), (29, .int .i64 ((v0.1.getD st1.2.toNat []).length : Int)), (30, .int .i64 st2.2)], hpGet [], gt⟩) (st1.1, 0) hw12 (zL [] [] []) ?_
      as_aux_lemma =>
       intro st2 x15 h hd14
       unfold delay_Conflicts_b2 at h
       refine zo ?_
       refine zB [(4, .sl (.sl (.pair (.int .i64) .bool)) v0.1), (6, .int .i64 st2.1), (7, .int .i64 st1.2), (21, .sl (.sl (.pair (.int .i64) .bool)) v0.1), (22, .int .i64 (v0.1.length : Int)), (23, .int .i64 st1.2), (29, .int .i64 ((v0.1.getD st1.2.toNat []).length : Int)), (30, .int .i64 st2.2), (31, .bool (decide (st2.2 < ((v0.1.getD st1.2.toNat []).length : Int))))] [] ?_
       refine AW.seq ?_
       refine zQ h (fun hb17 h => ?_) (fun hb17 h => ?_)
       ·refine zk ?_
        refine AW.have1 (fun b4_2 : Int => delay_Conflicts_k3 st2 b4_2 = some x15) (fun b4_2 => ⟨fr [(4, .sl (.sl (.pair (.int .i64) .bool)) v0.1), (6, .int .i64 b4_2), (7, .int .i64 st1.2), (21, .sl (.sl (.pair (.int .i64) .bool)) v0.1), (22, .int .i64 (v0.1.length : Int)), (23, .int .i64 st1.2), (29, .int .i64 ((v0.1.getD st1.2.toNat []).length : Int)), (30, .int .i64 st2.2)], hpGet [], gt⟩) (fun b4_2 h => ?_) (fun hk_delay_Conflicts_k3 => ?_)
        ·as_aux_lemma =>
          unfold delay_Conflicts_k3 at h
          refine AW.ops ?_
          obtain ⟨c18, h⟩ := ck_some.1 h
          refine zA [(4, .sl (.sl (.pair (.int .i64) .bool)) v0.1), (6, .int .i64 b4_2), (7, .int .i64 st1.2), (21, .sl (.sl (.pair (.int .i64) .bool)) v0.1), (22, .int .i64 (v0.1.length : Int)), (23, .int .i64 st1.2), (29, .int .i64 ((v0.1.getD st1.2.toNat []).length : Int)), (30, .int .i64 (st2.2 + 1))] [] ?_
          obtain rfl := Option.some.inj h
          exact ⟨_, rfl, zL [] [] []⟩
        ·refine AW.seq ?_
         refine AW.block ?_
         refine zo ?_
         refine zB [(4, .sl (.sl (.pair (.int .i64) .bool)) v0.1), (6, .int .i64 st2.1), (7, .int .i64 st1.2), (9, .int .i64 st2.2), (21, .sl (.sl (.pair (.int .i64) .bool)) v0.1), (22, .int .i64 (v0.1.length : Int)), (23, .int .i64 st1.2), (29, .int .i64 ((v0.1.getD st1.2.toNat []).length : Int)), (30, .int .i64 st2.2)] [] ?_
         refine zo ?_
         obtain ⟨c19, h⟩ := ck_some.1 h
         obtain ⟨c20, h⟩ := ck_some.1 h
         refine zB [(4, .sl (.sl (.pair (.int .i64) .bool)) v0.1), (6, .int .i64 st2.1), (7, .int .i64 st1.2), (9, .int .i64 st2.2), (21, .sl (.sl (.pair (.int .i64) .bool)) v0.1), (22, .int .i64 (v0.1.length : Int)), (23, .int .i64 st1.2), (29, .int .i64 ((v0.1.getD st1.2.toNat []).length : Int)), (30, .int .i64 st2.2), (35, .sl (.sl (.pair (.int .i64) .bool)) (v0.1.take st1.2.toNat)), (36, .int .i64 ((v0.1.take st1.2.toNat).length : Int)), (37, .int .i64 0)] [] ?_
         refine AW.block ?_
         obtain ⟨rv25, hw21, ho22⟩ := Option.bind_eq_some_iff.1 h
         refine AW.loopO (delay_Conflicts_b3 v0 st1 st2) (fun st3 => ⟨fr [(4, .sl (.sl (.pair (.int .i64) .bool)) v0.1), (6, .int .i64 st3.1), (7, .int .i64 st1.2), (9, .int .i64 st2.2), (21, .sl (.sl (.pair (.int .i64) .bool)) v0.1), (22, .int .i64 (v0.1.length : Int)), (23, .int .i64 st1.2), (29, .int .i64 ((v0.1.getD st1.2.toNat []).length : Int)), (30, .int .i64 st2.2), (35, .sl (.sl (.pair (.int .i64) .bool)) (v0.1.take st1.2.toNat)), (36, .int .i64 ((v0.1.take st1.2.toNat).length : Int)), (37, .int .i64 st3.2)], hpGet [], gt⟩) (st2.1, 0) hw21 (zL [] [] []) ?_
         as_aux_lemma =>
          intro st3 x24 h hd23
          unfold delay_Conflicts_b3 at h
          refine zo ?_
          refine zB [(4, .sl (.sl (.pair (.int .i64) .bool)) v0.1), (6, .int .i64 st3.1), (7, .int .i64 st1.2), (9, .int .i64 st2.2), (21, .sl (.sl (.pair (.int .i64) .bool)) v0.1), (22, .int .i64 (v0.1.length : Int)), (23, .int .i64 st1.2), (29, .int .i64 ((v0.1.getD st1.2.toNat []).length : Int)), (30, .int .i64 st2.2), (35, .sl (.sl (.pair (.int .i64) .bool)) (v0.1.take st1.2.toNat)), (36, .int .i64 ((v0.1.take st1.2.toNat).length : Int)), (37, .int .i64 st3.2), (38, .bool (decide (st3.2 < ((v0.1.take st1.2.toNat).length : Int))))] [] ?_
          refine AW.seq ?_
          refine zQ h (fun hb26 h => ?_) (fun hb26 h => ?_)
          ·refine zk ?_
           refine AW.have1 (fun b4 : Int => delay_Conflicts_k4 st3 b4 = some x24) (fun b4 => ⟨fr [(4, .sl (.sl (.pair (.int .i64) .bool)) v0.1), (6, .int .i64 b4), (7, .int .i64 st1.2), (9, .int .i64 st2.2), (21, .sl (.sl (.pair (.int .i64) .bool)) v0.1), (22, .int .i64 (v0.1.length : Int)), (23, .int .i64 st1.2), (29, .int .i64 ((v0.1.getD st1.2.toNat []).length : Int)), (30, .int .i64 st2.2), (35, .sl (.sl (.pair (.int .i64) .bool)) (v0.1.take st1.2.toNat)), (36, .int .i64 ((v0.1.take st1.2.toNat).length : Int)), (37, .int .i64 st3.2)], hpGet [], gt⟩) (fun b4 h => ?_) (fun hk_delay_Conflicts_k4 => ?_)
           ·as_aux_lemma =>
             unfold delay_Conflicts_k4 at h
             refine AW.ops ?_
             obtain ⟨c27, h⟩ := ck_some.1 h
             refine zA [(4, .sl (.sl (.pair (.int .i64) .bool)) v0.1), (6, .int .i64 b4), (7, .int .i64 st1.2), (9, .int .i64 st2.2), (21, .sl (.sl (.pair (.int .i64) .bool)) v0.1), (22, .int .i64 (v0.1.length : Int)), (23, .int .i64 st1.2), (29, .int .i64 ((v0.1.getD st1.2.toNat []).length : Int)), (30, .int .i64 st2.2), (35, .sl (.sl (.pair (.int .i64) .bool)) (v0.1.take st1.2.toNat)), (36, .int .i64 ((v0.1.take st1.2.toNat).length : Int)), (37, .int .i64 (st3.2 + 1))] [] ?_
             obtain rfl := Option.some.inj h
             exact ⟨_, rfl, zL [] [] []⟩
           ·refine AW.seq ?_
            refine AW.block ?_
            refine zo ?_
            obtain ⟨c28, h⟩ := ck_some.1 h
            obtain ⟨c29, h⟩ := ck_some.1 h
            refine zB [(4, .sl (.sl (.pair (.int .i64) .bool)) v0.1), (6, .int .i64 st3.1), (7, .int .i64 st1.2), (9, .int .i64 st2.2), (10, .int .i64 st3.2), (11, .sl (.pair (.int .i64) .bool) ((v0.1.take st1.2.toNat).getD st3.2.toNat [])), (21, .sl (.sl (.pair (.int .i64) .bool)) v0.1), (22, .int .i64 (v0.1.length : Int)), (23, .int .i64 st1.2), (29, .int .i64 ((v0.1.getD st1.2.toNat []).length : Int)), (30, .int .i64 st2.2), (35, .sl (.sl (.pair (.int .i64) .bool)) (v0.1.take st1.2.toNat)), (36, .int .i64 ((v0.1.take st1.2.toNat).length : Int)), (37, .int .i64 st3.2)] [] ?_
            refine zo ?_
            refine zB [(4, .sl (.sl (.pair (.int .i64) .bool)) v0.1), (6, .int .i64 st3.1), (7, .int .i64 st1.2), (9, .int .i64 st2.2), (10, .int .i64 st3.2), (21, .sl (.sl (.pair (.int .i64) .bool)) v0.1), (22, .int .i64 (v0.1.length : Int)), (23, .int .i64 st1.2), (29, .int .i64 ((v0.1.getD st1.2.toNat []).length : Int)), (30, .int .i64 st2.2), (35, .sl (.sl (.pair (.int .i64) .bool)) (v0.1.take st1.2.toNat)), (36, .int .i64 ((v0.1.take st1.2.toNat).length : Int)), (37, .int .i64 st3.2), (43, .int .i64 (((v0.1.take st1.2.toNat).getD st3.2.toNat []).length : Int)), (44, .int .i64 0)] [] ?_
            refine AW.block ?_
            obtain ⟨rv34, hw30, ho31⟩ := Option.bind_eq_some_iff.1 h
            refine AW.loopO (delay_Conflicts_b4 v0 st1 st2 st3) (fun st4 => ⟨fr [(4, .sl (.sl (.pair (.int .i64) .bool)) v0.1), (6, .int .i64 st4.1), (7, .int .i64 st1.2), (9, .int .i64 st2.2), (10, .int .i64 st3.2), (21, .sl (.sl (.pair (.int .i64) .bool)) v0.1), (22, .int .i64 (v0.1.length : Int)), (23, .int .i64 st1.2), (29, .int .i64 ((v0.1.getD st1.2.toNat []).length : Int)), (30, .int .i64 st2.2), (35, .sl (.sl (.pair (.int .i64) .bool)) (v0.1.take st1.2.toNat)), (36, .int .i64 ((v0.1.take st1.2.toNat).length : Int)), (37, .int .i64 st3.2), (43, .int .i64 (((v0.1.take st1.2.toNat).getD st3.2.toNat []).length : Int)), (44, .int .i64 st4.2)], hpGet [], gt⟩) (st3.1, 0) hw30 (zL [] [] []) ?_
            as_aux_lemma =>
             intro st4 x33 h hd32
             unfold delay_Conflicts_b4 at h
             refine zo ?_
             refine zB [(4, .sl (.sl (.pair (.int .i64) .bool)) v0.1), (6, .int .i64 st4.1), (7, .int .i64 st1.2), (9, .int .i64 st2.2), (10, .int .i64 st3.2), (21, .sl (.sl (.pair (.int .i64) .bool)) v0.1), (22, .int .i64 (v0.1.length : Int)), (23, .int .i64 st1.2), (29, .int .i64 ((v0.1.getD st1.2.toNat []).length : Int)), (30, .int .i64 st2.2), (35, .sl (.sl (.pair (.int .i64) .bool)) (v0.1.take st1.2.toNat)), (36, .int .i64 ((v0.1.take st1.2.toNat).length : Int)), (37, .int .i64 st3.2), (43, .int .i64 (((v0.1.take st1.2.toNat).getD st3.2.toNat []).length : Int)), (44, .int .i64 st4.2), (45, .bool (decide (st4.2 < (((v0.1.take st1.2.toNat).getD st3.2.toNat []).length : Int))))] [] ?_
             refine AW.seq ?_
             refine zQ h (fun hb35 h => ?_) (fun hb35 h => ?_)
             ·refine zk ?_
              refine AW.seq ?_
              refine AW.block ?_
              refine zo ?_
              refine zB [(4, .sl (.sl (.pair (.int .i64) .bool)) v0.1), (6, .int .i64 st4.1), (7, .int .i64 st1.2), (9, .int .i64 st2.2), (10, .int .i64 st3.2), (12, .int .i64 st4.2), (21, .sl (.sl (.pair (.int .i64) .bool)) v0.1), (22, .int .i64 (v0.1.length : Int)), (23, .int .i64 st1.2), (29, .int .i64 ((v0.1.getD st1.2.toNat []).length : Int)), (30, .int .i64 st2.2), (35, .sl (.sl (.pair (.int .i64) .bool)) (v0.1.take st1.2.toNat)), (36, .int .i64 ((v0.1.take st1.2.toNat).length : Int)), (37, .int .i64 st3.2), (43, .int .i64 (((v0.1.take st1.2.toNat).getD st3.2.toNat []).length : Int)), (44, .int .i64 st4.2)] [] ?_
              refine zo ?_
              refine zS 5 [(4, .sl (.sl (.pair (.int .i64) .bool)) v0.1), (6, .int .i64 st4.1), (7, .int .i64 st1.2), (9, .int .i64 st2.2), (10, .int .i64 st3.2), (21, .sl (.sl (.pair (.int .i64) .bool)) v0.1), (22, .int .i64 (v0.1.length : Int)), (23, .int .i64 st1.2), (29, .int .i64 ((v0.1.getD st1.2.toNat []).length : Int)), (30, .int .i64 st2.2), (35, .sl (.sl (.pair (.int .i64) .bool)) (v0.1.take st1.2.toNat)), (36, .int .i64 ((v0.1.take st1.2.toNat).length : Int)), (37, .int .i64 st3.2), (43, .int .i64 (((v0.1.take st1.2.toNat).getD st3.2.toNat []).length : Int)), (44, .int .i64 st4.2), (47, .sl (.sl (.pair (.int .i64) .bool)) v0.1), (48, .int .i64 st1.2), (49, .int .i64 st2.2), (50, .int .i64 st3.2), (51, .int .i64 st4.2)] [] ?_
              obtain ⟨v0_2, hv36, h⟩ := Option.bind_eq_some_iff.1 h
              refine zC [] [] (hc_delay_accesses_conflict v0.1 st1.2 st2.2 st3.2 st4.2 hv36) [(4, .sl (.sl (.pair (.int .i64) .bool)) v0.1), (6, .int .i64 st4.1), (7, .int .i64 st1.2), (9, .int .i64 st2.2), (10, .int .i64 st3.2), (21, .sl (.sl (.pair (.int .i64) .bool)) v0.1), (22, .int .i64 (v0.1.length : Int)), (23, .int .i64 st1.2), (29, .int .i64 ((v0.1.getD st1.2.toNat []).length : Int)), (30, .int .i64 st2.2), (35, .sl (.sl (.pair (.int .i64) .bool)) (v0.1.take st1.2.toNat)), (36, .int .i64 ((v0.1.take st1.2.toNat).length : Int)), (37, .int .i64 st3.2), (43, .int .i64 (((v0.1.take st1.2.toNat).getD st3.2.toNat []).length : Int)), (44, .int .i64 st4.2), (52, .bool v0_2)] [] ?_
              refine zB [(4, .sl (.sl (.pair (.int .i64) .bool)) v0.1), (6, .int .i64 st4.1), (7, .int .i64 st1.2), (9, .int .i64 st2.2), (10, .int .i64 st3.2), (21, .sl (.sl (.pair (.int .i64) .bool)) v0.1), (22, .int .i64 (v0.1.length : Int)), (23, .int .i64 st1.2), (29, .int .i64 ((v0.1.getD st1.2.toNat []).length : Int)), (30, .int .i64 st2.2), (35, .sl (.sl (.pair (.int .i64) .bool)) (v0.1.take st1.2.toNat)), (36, .int .i64 ((v0.1.take st1.2.toNat).length : Int)), (37, .int .i64 st3.2), (43, .int .i64 (((v0.1.take st1.2.toNat).getD st3.2.toNat []).length : Int)), (44, .int .i64 st4.2), (52, .bool v0_2)] [] ?_
              refine zQ h (fun hb37 h => ?_) (fun hb37 h => ?_)
              ·refine AW.ops ?_
               obtain ⟨c38, h⟩ := ck_some.1 h
               refine zA [(4, .sl (.sl (.pair (.int .i64) .bool)) v0.1), (6, .int .i64 (st4.1 + 1)), (7, .int .i64 st1.2), (9, .int .i64 st2.2), (10, .int .i64 st3.2), (21, .sl (.sl (.pair (.int .i64) .bool)) v0.1), (22, .int .i64 (v0.1.length : Int)), (23, .int .i64 st1.2), (29, .int .i64 ((v0.1.getD st1.2.toNat []).length : Int)), (30, .int .i64 st2.2), (35, .sl (.sl (.pair (.int .i64) .bool)) (v0.1.take st1.2.toNat)), (36, .int .i64 ((v0.1.take st1.2.toNat).length : Int)), (37, .int .i64 st3.2), (43, .int .i64 (((v0.1.take st1.2.toNat).getD st3.2.toNat []).length : Int)), (44, .int .i64 st4.2)] [] ?_
               refine ablock_n ?_
               refine athen_n ?_
               refine AW.ops ?_
               obtain ⟨c39, h⟩ := ck_some.1 h
               refine zA [(4, .sl (.sl (.pair (.int .i64) .bool)) v0.1), (6, .int .i64 (st4.1 + 1)), (7, .int .i64 st1.2), (9, .int .i64 st2.2), (10, .int .i64 st3.2), (21, .sl (.sl (.pair (.int .i64) .bool)) v0.1), (22, .int .i64 (v0.1.length : Int)), (23, .int .i64 st1.2), (29, .int .i64 ((v0.1.getD st1.2.toNat []).length : Int)), (30, .int .i64 st2.2), (35, .sl (.sl (.pair (.int .i64) .bool)) (v0.1.take st1.2.toNat)), (36, .int .i64 ((v0.1.take st1.2.toNat).length : Int)), (37, .int .i64 st3.2), (43, .int .i64 (((v0.1.take st1.2.toNat).getD st3.2.toNat []).length : Int)), (44, .int .i64 (st4.2 + 1))] [] ?_
               obtain rfl := Option.some.inj h
               exact ⟨_, rfl, zL [] [] []⟩
              ·refine zm ?_
               refine athen_n ?_
               refine AW.ops ?_
               obtain ⟨c40, h⟩ := ck_some.1 h
               refine zA [(4, .sl (.sl (.pair (.int .i64) .bool)) v0.1), (6, .int .i64 st4.1), (7, .int .i64 st1.2), (9, .int .i64 st2.2), (10, .int .i64 st3.2), (21, .sl (.sl (.pair (.int .i64) .bool)) v0.1), (22, .int .i64 (v0.1.length : Int)), (23, .int .i64 st1.2), (29, .int .i64 ((v0.1.getD st1.2.toNat []).length : Int)), (30, .int .i64 st2.2), (35, .sl (.sl (.pair (.int .i64) .bool)) (v0.1.take st1.2.toNat)), (36, .int .i64 ((v0.1.take st1.2.toNat).length : Int)), (37, .int .i64 st3.2), (43, .int .i64 (((v0.1.take st1.2.toNat).getD st3.2.toNat []).length : Int)), (44, .int .i64 (st4.2 + 1))] [] ?_
               obtain rfl := Option.some.inj h
               exact ⟨_, rfl, zL [] [] []⟩
             ·refine AW.exit ?_
              refine athen_e ?_
              obtain rfl := Option.some.inj h
              rw [← hd32 _ rfl] at ho31
              have h := ho31
              refine athen_e ?_
              refine ablock_s ?_
              refine ablock_n ?_
              refine athen_n ?_
              exact AW.weaken (zL [] [] []) (hk_delay_Conflicts_k4 _ h)
          ·refine AW.exit ?_
           refine athen_e ?_
           obtain rfl := Option.some.inj h
           rw [← hd23 _ rfl] at ho22
           have h := ho22
           refine athen_e ?_
           refine ablock_s ?_
           refine ablock_n ?_
           refine athen_n ?_
           exact AW.weaken (zL [] [] []) (hk_delay_Conflicts_k3 _ h)
       ·refine AW.exit ?_
        refine athen_e ?_
        obtain rfl := Option.some.inj h
        rw [← hd14 _ rfl] at ho13
        have h := ho13
        refine athen_e ?_
        refine ablock_s ?_
        refine ablock_n ?_
        refine athen_n ?_
        exact AW.weaken (zL [] [] []) (hk_delay_Conflicts_k2 _ h)
    ·refine AW.exit ?_
     refine athen_e ?_
     obtain rfl := Option.some.inj h
     rw [← hd5 _ rfl] at ho4
     have h := ho4
     refine athen_e ?_
     refine ablock_s ?_
     refine athen_n ?_
     exact AW.weaken (zL [] [] []) (hk_delay_Conflicts_k1 _ h)

theorem hc_linealref09_Conflicts (x0 : List (List (Int × Bool))) {r : Int × Int} (h : linealref09_Conflicts x0 = some r) : HC Try.prog 20 [] [.sl (.sl (.pair (.int .i64) .bool)) x0] [] (.tup [.int .i64 r.1, .int .i64 r.2]) := by
 unfold linealref09_Conflicts at h
 refine zH Try.func20 [.tmp 2, .tmp 3] 50 ?_
 refine zo ?_
 refine zB [(0, .sl (.sl (.pair (.int .i64) .bool)) x0)] [] ?_
 refine AW.seq ?_
 refine zo ?_
 refine zS 1 [(0, .sl (.sl (.pair (.int .i64) .bool)) x0), (9, .sl (.sl (.pair (.int .i64) .bool)) x0)] [] ?_
 obtain ⟨v0, hv1, h⟩ := Option.bind_eq_some_iff.1 h
 refine zC [] [] (hc_linealref09_Valid x0 hv1) [(0, .sl (.sl (.pair (.int .i64) .bool)) x0), (10, .bool v0)] [] ?_
 refine zB [(0, .sl (.sl (.pair (.int .i64) .bool)) x0), (11, .bool (!v0))] [] ?_
 refine zQ h (fun hb2 h => ?_) (fun hb2 h => ?_)
 ·refine zo ?_
  refine zB [(2, .int .i64 0), (3, .int .i64 90)] [] ?_
  refine zr ?_
  obtain rfl := Option.some.inj h
  exact zR [] [] []
 ·refine zk ?_
  refine zo ?_
  refine zB [(0, .sl (.sl (.pair (.int .i64) .bool)) x0), (4, .int .i64 0)] [] ?_
  refine AW.have1 (fun b4_4 : Int => linealref09_Conflicts_k1 b4_4 = some r) (fun b4_4 => ⟨fr [(4, .int .i64 b4_4)], hpGet [], gt⟩) (fun b4_4 h => ?_) (fun hk_linealref09_Conflicts_k1 => ?_)
  ·as_aux_lemma =>
    unfold linealref09_Conflicts_k1 at h
    refine zo ?_
    refine zB [(2, .int .i64 b4_4), (3, .int .i64 0)] [] ?_
    refine AW.ret ?_
    obtain rfl := Option.some.inj h
    exact zR [] [] []
  ·refine AW.seq ?_
   refine zo ?_
   refine zB [(0, .sl (.sl (.pair (.int .i64) .bool)) x0), (4, .int .i64 0), (13, .int .i64 (x0.length : Int)), (14, .int .i64 0)] [] ?_
   refine AW.block ?_
   obtain ⟨rv7, hw3, ho4⟩ := Option.bind_eq_some_iff.1 h
   refine AW.loopO (linealref09_Conflicts_b1 x0) (fun st1 => ⟨fr [(0, .sl (.sl (.pair (.int .i64) .bool)) x0), (4, .int .i64 st1.1), (13, .int .i64 (x0.length : Int)), (14, .int .i64 st1.2)], hpGet [], gt⟩) (0, 0) hw3 (zL [] [] []) ?_
   as_aux_lemma =>
    intro st1 x6 h hd5
    unfold linealref09_Conflicts_b1 at h
    refine zo ?_
    refine zB [(0, .sl (.sl (.pair (.int .i64) .bool)) x0), (4, .int .i64 st1.1), (13, .int .i64 (x0.length : Int)), (14, .int .i64 st1.2), (15, .bool (decide (st1.2 < (x0.length : Int))))] [] ?_
    refine AW.seq ?_
    refine zQ h (fun hb8 h => ?_) (fun hb8 h => ?_)
    ·refine zk ?_
     refine AW.have1 (fun b4_3 : Int => linealref09_Conflicts_k2 st1 b4_3 = some x6) (fun b4_3 => ⟨fr [(0, .sl (.sl (.pair (.int .i64) .bool)) x0), (4, .int .i64 b4_3), (13, .int .i64 (x0.length : Int)), (14, .int .i64 st1.2)], hpGet [], gt⟩) (fun b4_3 h => ?_) (fun hk_linealref09_Conflicts_k2 => ?_)
     ·as_aux_lemma =>
       unfold linealref09_Conflicts_k2 at h
       refine AW.ops ?_
       obtain ⟨c9, h⟩ := ck_some.1 h
       refine zA [(0, .sl (.sl (.pair (.int .i64) .bool)) x0), (4, .int .i64 b4_3), (13, .int .i64 (x0.length : Int)), (14, .int .i64 (st1.2 + 1))] [] ?_
       obtain rfl := Option.some.inj h
       exact ⟨_, rfl, zL [] [] []⟩
     ·refine AW.seq ?_
      refine AW.block ?_
      refine zo ?_
      refine zB [(0, .sl (.sl (.pair (.int .i64) .bool)) x0), (4, .int .i64 st1.1), (5, .int .i64 st1.2), (13, .int .i64 (x0.length : Int)), (14, .int .i64 st1.2)] [] ?_
      refine zo ?_
      refine zB [(0, .sl (.sl (.pair (.int .i64) .bool)) x0), (4, .int .i64 st1.1), (5, .int .i64 st1.2), (13, .int .i64 (x0.length : Int)), (14, .int .i64 st1.2), (17, .int .i64 st1.2), (18, .int .i64 0)] [] ?_
      refine AW.block ?_
      obtain ⟨rv14, hw10, ho11⟩ := Option.bind_eq_some_iff.1 h
      refine AW.loopO (linealref09_Conflicts_b2 x0 st1) (fun st2 => ⟨fr [(0, .sl (.sl (.pair (.int .i64) .bool)) x0), (4, .int .i64 st2.1), (5, .int .i64 st1.2), (13, .int .i64 (x0.length : Int)), (14, .int .i64 st1.2), (17, .int .i64 st1.2), (18, .int .i64 st2.2)], hpGet [], gt⟩) (st1.1, 0) hw10 (zL [] [] []) ?_
      as_aux_lemma =>
       intro st2 x13 h hd12
       unfold linealref09_Conflicts_b2 at h
       refine zo ?_
       refine zB [(0, .sl (.sl (.pair (.int .i64) .bool)) x0), (4, .int .i64 st2.1), (5, .int .i64 st1.2), (13, .int .i64 (x0.length : Int)), (14, .int .i64 st1.2), (17, .int .i64 st1.2), (18, .int .i64 st2.2), (19, .bool (decide (st2.2 < st1.2)))] [] ?_
       refine AW.seq ?_
       refine zQ h (fun hb15 h => ?_) (fun hb15 h => ?_)
       ·refine zk ?_
        refine AW.have1 (fun b4_2 : Int => linealref09_Conflicts_k3 st2 b4_2 = some x13) (fun b4_2 => ⟨fr [(0, .sl (.sl (.pair (.int .i64) .bool)) x0), (4, .int .i64 b4_2), (5, .int .i64 st1.2), (13, .int .i64 (x0.length : Int)), (14, .int .i64 st1.2), (17, .int .i64 st1.2), (18, .int .i64 st2.2)], hpGet [], gt⟩) (fun b4_2 h => ?_) (fun hk_linealref09_Conflicts_k3 => ?_)
        ·as_aux_lemma =>
          unfold linealref09_Conflicts_k3 at h
          refine AW.ops ?_
          obtain ⟨c16, h⟩ := ck_some.1 h
          refine zA [(0, .sl (.sl (.pair (.int .i64) .bool)) x0), (4, .int .i64 b4_2), (5, .int .i64 st1.2), (13, .int .i64 (x0.length : Int)), (14, .int .i64 st1.2), (17, .int .i64 st1.2), (18, .int .i64 (st2.2 + 1))] [] ?_
          obtain rfl := Option.some.inj h
          exact ⟨_, rfl, zL [] [] []⟩
        ·refine AW.seq ?_
         refine AW.block ?_
         refine zo ?_
         refine zB [(0, .sl (.sl (.pair (.int .i64) .bool)) x0), (4, .int .i64 st2.1), (5, .int .i64 st1.2), (6, .int .i64 st2.2), (13, .int .i64 (x0.length : Int)), (14, .int .i64 st1.2), (17, .int .i64 st1.2), (18, .int .i64 st2.2)] [] ?_
         refine zo ?_
         obtain ⟨c17, h⟩ := ck_some.1 h
         obtain ⟨c18, h⟩ := ck_some.1 h
         refine zS 5 [(0, .sl (.sl (.pair (.int .i64) .bool)) x0), (4, .int .i64 st2.1), (5, .int .i64 st1.2), (6, .int .i64 st2.2), (13, .int .i64 (x0.length : Int)), (14, .int .i64 st1.2), (17, .int .i64 st1.2), (18, .int .i64 st2.2), (25, .int .i64 ((x0.getD st1.2.toNat []).length : Int))] [] ?_
         refine zB [(0, .sl (.sl (.pair (.int .i64) .bool)) x0), (4, .int .i64 st2.1), (5, .int .i64 st1.2), (6, .int .i64 st2.2), (13, .int .i64 (x0.length : Int)), (14, .int .i64 st1.2), (17, .int .i64 st1.2), (18, .int .i64 st2.2), (25, .int .i64 ((x0.getD st1.2.toNat []).length : Int)), (26, .int .i64 0)] [] ?_
         refine AW.block ?_
         obtain ⟨rv23, hw19, ho20⟩ := Option.bind_eq_some_iff.1 h
         refine AW.loopO (linealref09_Conflicts_b3 x0 st1 st2) (fun st3 => ⟨fr [(0, .sl (.sl (.pair (.int .i64) .bool)) x0), (4, .int .i64 st3.1), (5, .int .i64 st1.2), (6, .int .i64 st2.2), (13, .int .i64 (x0.length : Int)), (14, .int .i64 st1.2), (17, .int .i64 st1.2), (18, .int .i64 st2.2), (25, .int .i64 ((x0.getD st1.2.toNat []).length : Int)), (26, .int .i64 st3.2)], hpGet [], gt⟩) (st2.1, 0) hw19 (zL [] [] []) ?_
         as_aux_lemma =>
          intro st3 x22 h hd21
          unfold linealref09_Conflicts_b3 at h
          refine zo ?_
          refine zB [(0, .sl (.sl (.pair (.int .i64) .bool)) x0), (4, .int .i64 st3.1), (5, .int .i64 st1.2), (6, .int .i64 st2.2), (13, .int .i64 (x0.length : Int)), (14, .int .i64 st1.2), (17, .int .i64 st1.2), (18, .int .i64 st2.2), (25, .int .i64 ((x0.getD st1.2.toNat []).length : Int)), (26, .int .i64 st3.2), (27, .bool (decide (st3.2 < ((x0.getD st1.2.toNat []).length : Int))))] [] ?_
          refine AW.seq ?_
          refine zQ h (fun hb24 h => ?_) (fun hb24 h => ?_)
          ·refine zk ?_
           refine AW.have1 (fun b4 : Int => linealref09_Conflicts_k4 st3 b4 = some x22) (fun b4 => ⟨fr [(0, .sl (.sl (.pair (.int .i64) .bool)) x0), (4, .int .i64 b4), (5, .int .i64 st1.2), (6, .int .i64 st2.2), (13, .int .i64 (x0.length : Int)), (14, .int .i64 st1.2), (17, .int .i64 st1.2), (18, .int .i64 st2.2), (25, .int .i64 ((x0.getD st1.2.toNat []).length : Int)), (26, .int .i64 st3.2)], hpGet [], gt⟩) (fun b4 h => ?_) (fun hk_linealref09_Conflicts_k4 => ?_)
           ·as_aux_lemma =>
             unfold linealref09_Conflicts_k4 at h
             refine AW.ops ?_
             obtain ⟨c25, h⟩ := ck_some.1 h
             refine zA [(0, .sl (.sl (.pair (.int .i64) .bool)) x0), (4, .int .i64 b4), (5, .int .i64 st1.2), (6, .int .i64 st2.2), (13, .int .i64 (x0.length : Int)), (14, .int .i64 st1.2), (17, .int .i64 st1.2), (18, .int .i64 st2.2), (25, .int .i64 ((x0.getD st1.2.toNat []).length : Int)), (26, .int .i64 (st3.2 + 1))] [] ?_
             obtain rfl := Option.some.inj h
             exact ⟨_, rfl, zL [] [] []⟩
           ·refine AW.seq ?_
            refine AW.block ?_
            refine zo ?_
            refine zB [(0, .sl (.sl (.pair (.int .i64) .bool)) x0), (4, .int .i64 st3.1), (5, .int .i64 st1.2), (6, .int .i64 st2.2), (7, .int .i64 st3.2), (13, .int .i64 (x0.length : Int)), (14, .int .i64 st1.2), (17, .int .i64 st1.2), (18, .int .i64 st2.2), (25, .int .i64 ((x0.getD st1.2.toNat []).length : Int)), (26, .int .i64 st3.2)] [] ?_
            refine zo ?_
            obtain ⟨c26, h⟩ := ck_some.1 h
            obtain ⟨c27, h⟩ := ck_some.1 h
            refine zS 5 [(0, .sl (.sl (.pair (.int .i64) .bool)) x0), (4, .int .i64 st3.1), (5, .int .i64 st1.2), (6, .int .i64 st2.2), (7, .int .i64 st3.2), (13, .int .i64 (x0.length : Int)), (14, .int .i64 st1.2), (17, .int .i64 st1.2), (18, .int .i64 st2.2), (25, .int .i64 ((x0.getD st1.2.toNat []).length : Int)), (26, .int .i64 st3.2), (33, .int .i64 ((x0.getD st2.2.toNat []).length : Int))] [] ?_
            refine zB [(0, .sl (.sl (.pair (.int .i64) .bool)) x0), (4, .int .i64 st3.1), (5, .int .i64 st1.2), (6, .int .i64 st2.2), (7, .int .i64 st3.2), (13, .int .i64 (x0.length : Int)), (14, .int .i64 st1.2), (17, .int .i64 st1.2), (18, .int .i64 st2.2), (25, .int .i64 ((x0.getD st1.2.toNat []).length : Int)), (26, .int .i64 st3.2), (33, .int .i64 ((x0.getD st2.2.toNat []).length : Int)), (34, .int .i64 0)] [] ?_
            refine AW.block ?_
            obtain ⟨rv32, hw28, ho29⟩ := Option.bind_eq_some_iff.1 h
            refine AW.loopO (linealref09_Conflicts_b4 x0 st1 st2 st3) (fun st4 => ⟨fr [(0, .sl (.sl (.pair (.int .i64) .bool)) x0), (4, .int .i64 st4.1), (5, .int .i64 st1.2), (6, .int .i64 st2.2), (7, .int .i64 st3.2), (13, .int .i64 (x0.length : Int)), (14, .int .i64 st1.2), (17, .int .i64 st1.2), (18, .int .i64 st2.2), (25, .int .i64 ((x0.getD st1.2.toNat []).length : Int)), (26, .int .i64 st3.2), (33, .int .i64 ((x0.getD st2.2.toNat []).length : Int)), (34, .int .i64 st4.2)], hpGet [], gt⟩) (st3.1, 0) hw28 (zL [] [] []) ?_
            as_aux_lemma =>
             intro st4 x31 h hd30
             unfold linealref09_Conflicts_b4 at h
             refine zo ?_
             refine zB [(0, .sl (.sl (.pair (.int .i64) .bool)) x0), (4, .int .i64 st4.1), (5, .int .i64 st1.2), (6, .int .i64 st2.2), (7, .int .i64 st3.2), (13, .int .i64 (x0.length : Int)), (14, .int .i64 st1.2), (17, .int .i64 st1.2), (18, .int .i64 st2.2), (25, .int .i64 ((x0.getD st1.2.toNat []).length : Int)), (26, .int .i64 st3.2), (33, .int .i64 ((x0.getD st2.2.toNat []).length : Int)), (34, .int .i64 st4.2), (35, .bool (decide (st4.2 < ((x0.getD st2.2.toNat []).length : Int))))] [] ?_
             refine AW.seq ?_
             refine zQ h (fun hb33 h => ?_) (fun hb33 h => ?_)
             ·refine zk ?_
              refine AW.seq ?_
              refine AW.block ?_
              refine zo ?_
              refine zB [(0, .sl (.sl (.pair (.int .i64) .bool)) x0), (4, .int .i64 st4.1), (5, .int .i64 st1.2), (6, .int .i64 st2.2), (7, .int .i64 st3.2), (8, .int .i64 st4.2), (13, .int .i64 (x0.length : Int)), (14, .int .i64 st1.2), (17, .int .i64 st1.2), (18, .int .i64 st2.2), (25, .int .i64 ((x0.getD st1.2.toNat []).length : Int)), (26, .int .i64 st3.2), (33, .int .i64 ((x0.getD st2.2.toNat []).length : Int)), (34, .int .i64 st4.2)] [] ?_
              refine zo ?_
              refine zS 5 [(0, .sl (.sl (.pair (.int .i64) .bool)) x0), (4, .int .i64 st4.1), (5, .int .i64 st1.2), (6, .int .i64 st2.2), (7, .int .i64 st3.2), (13, .int .i64 (x0.length : Int)), (14, .int .i64 st1.2), (17, .int .i64 st1.2), (18, .int .i64 st2.2), (25, .int .i64 ((x0.getD st1.2.toNat []).length : Int)), (26, .int .i64 st3.2), (33, .int .i64 ((x0.getD st2.2.toNat []).length : Int)), (34, .int .i64 st4.2), (37, .sl (.sl (.pair (.int .i64) .bool)) x0), (38, .int .i64 st1.2), (39, .int .i64 st3.2), (40, .int .i64 st2.2), (41, .int .i64 st4.2)] [] ?_
              obtain ⟨v0_2, hv34, h⟩ := Option.bind_eq_some_iff.1 h
              refine zC [] [] (hc_linealref09_conflict x0 st1.2 st3.2 st2.2 st4.2 hv34) [(0, .sl (.sl (.pair (.int .i64) .bool)) x0), (4, .int .i64 st4.1), (5, .int .i64 st1.2), (6, .int .i64 st2.2), (7, .int .i64 st3.2), (13, .int .i64 (x0.length : Int)), (14, .int .i64 st1.2), (17, .int .i64 st1.2), (18, .int .i64 st2.2), (25, .int .i64 ((x0.getD st1.2.toNat []).length : Int)), (26, .int .i64 st3.2), (33, .int .i64 ((x0.getD st2.2.toNat []).length : Int)), (34, .int .i64 st4.2), (42, .bool v0_2)] [] ?_
              refine zB [(0, .sl (.sl (.pair (.int .i64) .bool)) x0), (4, .int .i64 st4.1), (5, .int .i64 st1.2), (6, .int .i64 st2.2), (7, .int .i64 st3.2), (13, .int .i64 (x0.length : Int)), (14, .int .i64 st1.2), (17, .int .i64 st1.2), (18, .int .i64 st2.2), (25, .int .i64 ((x0.getD st1.2.toNat []).length : Int)), (26, .int .i64 st3.2), (33, .int .i64 ((x0.getD st2.2.toNat []).length : Int)), (34, .int .i64 st4.2), (42, .bool v0_2)] [] ?_
              refine zQ h (fun hb35 h => ?_) (fun hb35 h => ?_)
              ·refine AW.ops ?_
               obtain ⟨c36, h⟩ := ck_some.1 h
               refine zA [(0, .sl (.sl (.pair (.int .i64) .bool)) x0), (4, .int .i64 (st4.1 + 1)), (5, .int .i64 st1.2), (6, .int .i64 st2.2), (7, .int .i64 st3.2), (13, .int .i64 (x0.length : Int)), (14, .int .i64 st1.2), (17, .int .i64 st1.2), (18, .int .i64 st2.2), (25, .int .i64 ((x0.getD st1.2.toNat []).length : Int)), (26, .int .i64 st3.2), (33, .int .i64 ((x0.getD st2.2.toNat []).length : Int)), (34, .int .i64 st4.2)] [] ?_
               refine ablock_n ?_
               refine athen_n ?_
               refine AW.ops ?_
               obtain ⟨c37, h⟩ := ck_some.1 h
               refine zA [(0, .sl (.sl (.pair (.int .i64) .bool)) x0), (4, .int .i64 (st4.1 + 1)), (5, .int .i64 st1.2), (6, .int .i64 st2.2), (7, .int .i64 st3.2), (13, .int .i64 (x0.length : Int)), (14, .int .i64 st1.2), (17, .int .i64 st1.2), (18, .int .i64 st2.2), (25, .int .i64 ((x0.getD st1.2.toNat []).length : Int)), (26, .int .i64 st3.2), (33, .int .i64 ((x0.getD st2.2.toNat []).length : Int)), (34, .int .i64 (st4.2 + 1))] [] ?_
               obtain rfl := Option.some.inj h
               exact ⟨_, rfl, zL [] [] []⟩
              ·refine zm ?_
               refine athen_n ?_
               refine AW.ops ?_
               obtain ⟨c38, h⟩ := ck_some.1 h
               refine zA [(0, .sl (.sl (.pair (.int .i64) .bool)) x0), (4, .int .i64 st4.1), (5, .int .i64 st1.2), (6, .int .i64 st2.2), (7, .int .i64 st3.2), (13, .int .i64 (x0.length : Int)), (14, .int .i64 st1.2), (17, .int .i64 st1.2), (18, .int .i64 st2.2), (25, .int .i64 ((x0.getD st1.2.toNat []).length : Int)), (26, .int .i64 st3.2), (33, .int .i64 ((x0.getD st2.2.toNat []).length : Int)), (34, .int .i64 (st4.2 + 1))] [] ?_
               obtain rfl := Option.some.inj h
               exact ⟨_, rfl, zL [] [] []⟩
             ·refine AW.exit ?_
              refine athen_e ?_
              obtain rfl := Option.some.inj h
              rw [← hd30 _ rfl] at ho29
              have h := ho29
              refine athen_e ?_
              refine ablock_s ?_
              refine ablock_n ?_
              refine athen_n ?_
              exact AW.weaken (zL [] [] []) (hk_linealref09_Conflicts_k4 _ h)
          ·refine AW.exit ?_
           refine athen_e ?_
           obtain rfl := Option.some.inj h
           rw [← hd21 _ rfl] at ho20
           have h := ho20
           refine athen_e ?_
           refine ablock_s ?_
           refine ablock_n ?_
           refine athen_n ?_
           exact AW.weaken (zL [] [] []) (hk_linealref09_Conflicts_k3 _ h)
       ·refine AW.exit ?_
        refine athen_e ?_
        obtain rfl := Option.some.inj h
        rw [← hd12 _ rfl] at ho11
        have h := ho11
        refine athen_e ?_
        refine ablock_s ?_
        refine ablock_n ?_
        refine athen_n ?_
        exact AW.weaken (zL [] [] []) (hk_linealref09_Conflicts_k2 _ h)
    ·refine AW.exit ?_
     refine athen_e ?_
     obtain rfl := Option.some.inj h
     rw [← hd5 _ rfl] at ho4
     have h := ho4
     refine athen_e ?_
     refine ablock_s ?_
     refine athen_n ?_
     exact AW.weaken (zL [] [] []) (hk_linealref09_Conflicts_k1 _ h)

theorem hc_slices_IndexFunc_5 (s : List (Int × Int × Int)) {r : Int} (h : slices_IndexFunc_5 s = some r) : HC Try.prog 116 [(1000, .arr 35 (.pair (.int .i64) (.pair (.int .i64) (.int .i64))) s)] [.own 1000, .fn (.func 110) [] []] [(1000, .arr 35 (.pair (.int .i64) (.pair (.int .i64) (.int .i64))) s)] (.int .i64 r) := by
 unfold slices_IndexFunc_5 at h
 refine zH Try.func116 [.tmp 4] 19 ?_
 refine zo ?_
 refine zB [(0, .own 1000), (1, .fn (.func 110) [] [])] [(1000, .arr 35 (.pair (.int .i64) (.pair (.int .i64) (.int .i64))) s)] ?_
 refine AW.have1 (fun _ : Unit => slices_IndexFunc_5_k1 = some r) (fun _ => ⟨fr [], hpGet [(1000, .arr 35 (.pair (.int .i64) (.pair (.int .i64) (.int .i64))) s)], gt⟩) (fun _ h => ?_) (fun hk_slices_IndexFunc_5_k1 => ?_)
 ·as_aux_lemma =>
   unfold slices_IndexFunc_5_k1 at h
   refine zo ?_
   refine zB [(4, .int .i64 (-1))] [(1000, .arr 35 (.pair (.int .i64) (.pair (.int .i64) (.int .i64))) s)] ?_
   refine AW.ret ?_
   obtain rfl := Option.some.inj h
   exact zR [] [] []
 ·refine AW.seq ?_
  refine zo ?_
  refine zB [(0, .own 1000), (1, .fn (.func 110) [] []), (7, .int .i64 (s.length : Int)), (8, .int .i64 0)] [(1000, .arr 35 (.pair (.int .i64) (.pair (.int .i64) (.int .i64))) s)] ?_
  refine AW.block ?_
  obtain ⟨rv5, hw1, ho2⟩ := Option.bind_eq_some_iff.1 h
  refine AW.loopO (slices_IndexFunc_5_b1 s) (fun st1 => ⟨fr [(0, .own 1000), (1, .fn (.func 110) [] []), (7, .int .i64 (s.length : Int)), (8, .int .i64 st1)], hpGet [(1000, .arr 35 (.pair (.int .i64) (.pair (.int .i64) (.int .i64))) s)], gt⟩) 0 hw1 (zL [] [] []) ?_
  as_aux_lemma =>
   intro st1 x4 h hd3
   unfold slices_IndexFunc_5_b1 at h
   refine zo ?_
   refine zB [(0, .own 1000), (1, .fn (.func 110) [] []), (7, .int .i64 (s.length : Int)), (8, .int .i64 st1), (9, .bool (decide (st1 < (s.length : Int))))] [(1000, .arr 35 (.pair (.int .i64) (.pair (.int .i64) (.int .i64))) s)] ?_
   refine AW.seq ?_
   refine zQ h (fun hb6 h => ?_) (fun hb6 h => ?_)
   ·refine zk ?_
    refine AW.seq ?_
    refine AW.block ?_
    refine zo ?_
    refine zB [(0, .own 1000), (1, .fn (.func 110) [] []), (5, .int .i64 st1), (7, .int .i64 (s.length : Int)), (8, .int .i64 st1)] [(1000, .arr 35 (.pair (.int .i64) (.pair (.int .i64) (.int .i64))) s)] ?_
    refine zo ?_
    obtain ⟨c7, h⟩ := ck_some.1 h
    obtain ⟨c8, h⟩ := ck_some.1 h
    refine zS 5 [(0, .own 1000), (1, .fn (.func 110) [] []), (5, .int .i64 st1), (7, .int .i64 (s.length : Int)), (8, .int .i64 st1), (11, .fn (.func 110) [] []), (15, .agg [.int .i64 (s.getD st1.toNat (0, 0, 0)).1, .int .i64 (s.getD st1.toNat (0, 0, 0)).2.1, .int .i64 (s.getD st1.toNat (0, 0, 0)).2.2])] [(1000, .arr 35 (.pair (.int .i64) (.pair (.int .i64) (.int .i64))) s)] ?_
    obtain ⟨v0, hv9, h⟩ := Option.bind_eq_some_iff.1 h
    refine zC [] [] (hc_delay_isOne (s.getD st1.toNat (0, 0, 0)) hv9) [(0, .own 1000), (1, .fn (.func 110) [] []), (5, .int .i64 st1), (7, .int .i64 (s.length : Int)), (8, .int .i64 st1), (16, .bool (decide ((s.getD st1.toNat (0, 0, 0)).2.1 = (s.getD st1.toNat (0, 0, 0)).2.2)))] [(1000, .arr 35 (.pair (.int .i64) (.pair (.int .i64) (.int .i64))) s)] ?_
    refine zB [(0, .own 1000), (1, .fn (.func 110) [] []), (5, .int .i64 st1), (7, .int .i64 (s.length : Int)), (8, .int .i64 st1), (16, .bool (decide ((s.getD st1.toNat (0, 0, 0)).2.1 = (s.getD st1.toNat (0, 0, 0)).2.2)))] [(1000, .arr 35 (.pair (.int .i64) (.pair (.int .i64) (.int .i64))) s)] ?_
    refine zQ h (fun hb10 h => ?_) (fun hb10 h => ?_)
    ·refine zo ?_
     refine zB [(4, .int .i64 st1)] [(1000, .arr 35 (.pair (.int .i64) (.pair (.int .i64) (.int .i64))) s)] ?_
     refine AW.ret ?_
     refine ablock_r ?_
     refine athen_r ?_
     obtain rfl := Option.some.inj h
     rw [← hd3 _ rfl] at ho2
     have h := ho2
     try simp only at h
     refine athen_r ?_
     refine ablock_r ?_
     refine athen_r ?_
     obtain rfl := Option.some.inj h
     exact zR [] [] []
    ·refine zm ?_
     refine athen_n ?_
     refine AW.ops ?_
     obtain ⟨c11, h⟩ := ck_some.1 h
     refine zA [(0, .own 1000), (1, .fn (.func 110) [] []), (7, .int .i64 (s.length : Int)), (8, .int .i64 (st1 + 1))] [(1000, .arr 35 (.pair (.int .i64) (.pair (.int .i64) (.int .i64))) s)] ?_
     obtain rfl := Option.some.inj h
     exact ⟨_, rfl, zL [] [] []⟩
   ·refine AW.exit ?_
    refine athen_e ?_
    obtain rfl := Option.some.inj h
    try rw [← hd3 _ rfl] at ho2
    have h := ho2
    try simp only at h
    refine athen_e ?_
    refine ablock_s ?_
    refine athen_n ?_
    exact AW.weaken (zL [] [] []) (hk_slices_IndexFunc_5_k1 () h)

end Go.Proofs.Ytdicomoggfhbfaa
