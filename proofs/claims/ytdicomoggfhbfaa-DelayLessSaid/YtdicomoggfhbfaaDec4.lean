/-
  Made by wip/tool/dc.py out of the print of the program: contracts.
-/
import Derived.Test.YtdicomoggfhbfaaDlp
import Derived.Test.YtdicomoggfhbfaaShd
import Derived.Test.YtdicomoggfhbfaaAvd
import Derived.Test.YtdicomoggfhbfaaDec1
import Derived.Test.YtdicomoggfhbfaaDec2
import Derived.Test.YtdicomoggfhbfaaDec3
namespace Go.Proofs.Ytdicomoggfhbfaa
open Go.RowKit

set_option linter.unusedSimpArgs false
set_option linter.unusedVariables false
set_option linter.constructorNameAsVariable false

set_option maxRecDepth 100000
set_option maxHeartbeats 40000000

theorem hc_delay_Conflicts (x0 : List (List (Int × Bool))) {r : Int × Int} (h : delay_Conflicts x0 = some r) : HC Try.prog 19 [] [.sl (.sl (.pair (.int .i64) .bool)) x0] [] (.tup [.int .i64 r.1, .int .i64 r.2]) := by
 unfold delay_Conflicts at h
 refine zH Try.func19 [.tmp 2, .tmp 3] 60 ?_
 refine zo ?_
 refine zB [(0, .sl (.sl (.pair (.int .i64) .bool)) x0)] [] ?_
 refine zo ?_
 refine zS 1 [(14, .sl (.sl (.pair (.int .i64) .bool)) x0)] [] ?_
 obtain ⟨v0, hv1, h⟩ := Option.bind_eq_some_iff.1 h
 refine zC [] [] (hc_delay_accessesOf x0 hv1) [(15, .tup [.sl (.sl (.pair (.int .i64) .bool)) v0.1, .int .i64 v0.2])] [] ?_
 refine zB [(4, .sl (.sl (.pair (.int .i64) .bool)) v0.1), (5, .int .i64 v0.2)] [] ?_
 refine AW.seq ?_
 refine zo ?_
 refine zB [(4, .sl (.sl (.pair (.int .i64) .bool)) v0.1), (5, .int .i64 v0.2), (19, .bool (!(decide (v0.2 = 0))))] [] ?_
 refine zQ h (fun hb2 h => ?_) (fun hb2 h => ?_)
 ·refine zo ?_
  refine zB [(2, .int .i64 0), (3, .int .i64 v0.2)] [] ?_
  refine zr ?_
  obtain rfl := Option.some.inj h
  exact zR [] [] []
 ·refine zk ?_
  refine zo ?_
  refine zB [(4, .sl (.sl (.pair (.int .i64) .bool)) v0.1), (6, .int .i64 0)] [] ?_
  refine AW.have1 (fun b4_4 : Int => delay_Conflicts_k1 b4_4 = some r) (fun b4_4 => ⟨fr [(6, .int .i64 b4_4)], hpGet [], gt⟩) (fun b4_4 h => ?_) (fun hk_delay_Conflicts_k1 => ?_)
  ·as_aux_lemma =>
    unfold delay_Conflicts_k1 at h
    refine zo ?_
    refine zB [(2, .int .i64 b4_4), (3, .int .i64 0)] [] ?_
    refine AW.ret ?_
    obtain rfl := Option.some.inj h
    exact zR [] [] []
  ·refine AW.seq ?_
   refine zo ?_
   refine zB [(4, .sl (.sl (.pair (.int .i64) .bool)) v0.1), (6, .int .i64 0), (21, .sl (.sl (.pair (.int .i64) .bool)) v0.1), (22, .int .i64 (v0.1.length : Int)), (23, .int .i64 0)] [] ?_
   refine AW.block ?_
   obtain ⟨rv7, hw3, ho4⟩ := Option.bind_eq_some_iff.1 h
   refine AW.loopO (delay_Conflicts_b1 v0) (fun st1 => ⟨fr [(4, .sl (.sl (.pair (.int .i64) .bool)) v0.1), (6, .int .i64 st1.1), (21, .sl (.sl (.pair (.int .i64) .bool)) v0.1), (22, .int .i64 (v0.1.length : Int)), (23, .int .i64 st1.2)], hpGet [], gt⟩) (0, 0) hw3 (zL [] [] []) ?_
   as_aux_lemma =>
    intro st1 x6 h hd5
    unfold delay_Conflicts_b1 at h
    refine zo ?_
    refine zB [(4, .sl (.sl (.pair (.int .i64) .bool)) v0.1), (6, .int .i64 st1.1), (21, .sl (.sl (.pair (.int .i64) .bool)) v0.1), (22, .int .i64 (v0.1.length : Int)), (23, .int .i64 st1.2), (24, .bool (decide (st1.2 < (v0.1.length : Int))))] [] ?_
    refine AW.seq ?_
    refine zQ h (fun hb8 h => ?_) (fun hb8 h => ?_)
    ·refine zk ?_
     refine AW.have1 (fun b4_3 : Int => delay_Conflicts_k2 st1 b4_3 = some x6) (fun b4_3 => ⟨fr [(4, .sl (.sl (.pair (.int .i64) .bool)) v0.1), (6, .int .i64 b4_3), (21, .sl (.sl (.pair (.int .i64) .bool)) v0.1), (22, .int .i64 (v0.1.length : Int)), (23, .int .i64 st1.2)], hpGet [], gt⟩) (fun b4_3 h => ?_) (fun hk_delay_Conflicts_k2 => ?_)
     ·as_aux_lemma =>
       unfold delay_Conflicts_k2 at h
       refine AW.ops ?_
       obtain ⟨c9, h⟩ := ck_some.1 h
       refine zA [(4, .sl (.sl (.pair (.int .i64) .bool)) v0.1), (6, .int .i64 b4_3), (21, .sl (.sl (.pair (.int .i64) .bool)) v0.1), (22, .int .i64 (v0.1.length : Int)), (23, .int .i64 (st1.2 + 1))] [] ?_
       obtain rfl := Option.some.inj h
       exact ⟨_, rfl, zL [] [] []⟩
     ·refine AW.seq ?_
      refine AW.block ?_
      refine zo ?_
      obtain ⟨c10, h⟩ := ck_some.1 h
      obtain ⟨c11, h⟩ := ck_some.1 h
      refine zB [(4, .sl (.sl (.pair (.int .i64) .bool)) v0.1), (6, .int .i64 st1.1), (7, .int .i64 st1.2), (8, .sl (.pair (.int .i64) .bool) (v0.1.getD st1.2.toNat [])), (21, .sl (.sl (.pair (.int .i64) .bool)) v0.1), (22, .int .i64 (v0.1.length : Int)), (23, .int .i64 st1.2)] [] ?_
      refine zo ?_
      refine zB [(4, .sl (.sl (.pair (.int .i64) .bool)) v0.1), (6, .int .i64 st1.1), (7, .int .i64 st1.2), (21, .sl (.sl (.pair (.int .i64) .bool)) v0.1), (22, .int .i64 (v0.1.length : Int)), (23, .int .i64 st1.2), (29, .int .i64 ((v0.1.getD st1.2.toNat []).length : Int)), (30, .int .i64 0)] [] ?_
      refine AW.block ?_
      obtain ⟨rv16, hw12, ho13⟩ := Option.bind_eq_some_iff.1 h
      refine AW.loopO (delay_Conflicts_b2 v0 st1) (fun st2 => ⟨fr [(4, .sl (.sl (.pair (.int .i64) .bool)) v0.1), (6, .int .i64 st2.1), (7, .int .i64 st1.2), (21, .sl (.sl (.pair (.int .i64) .bool)) v0.1), (22, .int .i64 (v0.1.length : Int)), (23, .int .i64 st1.2), (29, .int .i64 ((v0.1.getD st1.2.toNat []).length : Int)), (30, .int .i64 st2.2)], hpGet [], gt⟩) (st1.1, 0) hw12 (zL [] [] []) ?_
      as_aux_lemma =>
       intro st2 x15 h hd14
       unfold delay_Conflicts_b2 at h
       refine zo ?_
       refine zB [(4, .sl (.sl (.pair (.int .i64) .bool)) v0.1), (6, .int .i64 st2.1), (7, .int .i64 st1.2), (21, .sl (.sl (.pair (.int .i64) .bool)) v0.1), (22, .int .i64 (v0.1.length : Int)), (23, .int .i64 st1.2), (29, .int .i64 ((v0.1.getD st1.2.toNat []).length : Int)), (30, .int .i64 st2.2), (31, .bool (decide (st2.2 < ((v0.1.getD st1.2.toNat []).length : Int))))] [] ?_
       refine AW.seq ?_
       refine zQ h (fun hb17 h => ?_) (fun hb17 h => ?_)
       ·refine zk ?_
        refine AW.have1 (fun b4_2 : Int => delay_Conflicts_k3 st2 b4_2 = some x15) (fun b4_2 => ⟨fr [(4, .sl (.sl (.pair (.int .i64) .bool)) v0.1), (6, .int .i64 b4_2), (7, .int .i64 st1.2), (21, .sl (.sl (.pair (.int .i64) .bool)) v0.1), (22, .int .i64 (v0.1.length : Int)), (23, .int .i64 st1.2), (29, .int .i64 ((v0.1.getD st1.2.toNat []).length : Int)), (30, .int .i64 st2.2)], hpGet [], gt⟩) (fun b4_2 h => ?_) (fun hk_delay_Conflicts_k3 => ?_)
        ·as_aux_lemma =>
          unfold delay_Conflicts_k3 at h
          refine AW.ops ?_
          obtain ⟨c18, h⟩ := ck_some.1 h
          refine zA [(4, .sl (.sl (.pair (.int .i64) .bool)) v0.1), (6, .int .i64 b4_2), (7, .int .i64 st1.2), (21, .sl (.sl (.pair (.int .i64) .bool)) v0.1), (22, .int .i64 (v0.1.length : Int)), (23, .int .i64 st1.2), (29, .int .i64 ((v0.1.getD st1.2.toNat []).length : Int)), (30, .int .i64 (st2.2 + 1))] [] ?_
          obtain rfl := Option.some.inj h
          exact ⟨_, rfl, zL [] [] []⟩
        ·refine AW.seq ?_
         refine AW.block ?_
         refine zo ?_
         refine zB [(4, .sl (.sl (.pair (.int .i64) .bool)) v0.1), (6, .int .i64 st2.1), (7, .int .i64 st1.2), (9, .int .i64 st2.2), (21, .sl (.sl (.pair (.int .i64) .bool)) v0.1), (22, .int .i64 (v0.1.length : Int)), (23, .int .i64 st1.2), (29, .int .i64 ((v0.1.getD st1.2.toNat []).length : Int)), (30, .int .i64 st2.2)] [] ?_
         refine zo ?_
         obtain ⟨c19, h⟩ := ck_some.1 h
         obtain ⟨c20, h⟩ := ck_some.1 h
         refine zB [(4, .sl (.sl (.pair (.int .i64) .bool)) v0.1), (6, .int .i64 st2.1), (7, .int .i64 st1.2), (9, .int .i64 st2.2), (21, .sl (.sl (.pair (.int .i64) .bool)) v0.1), (22, .int .i64 (v0.1.length : Int)), (23, .int .i64 st1.2), (29, .int .i64 ((v0.1.getD st1.2.toNat []).length : Int)), (30, .int .i64 st2.2), (35, .sl (.sl (.pair (.int .i64) .bool)) (v0.1.take st1.2.toNat)), (36, .int .i64 ((v0.1.take st1.2.toNat).length : Int)), (37, .int .i64 0)] [] ?_
         refine AW.block ?_
         obtain ⟨rv25, hw21, ho22⟩ := Option.bind_eq_some_iff.1 h
         refine AW.loopO (delay_Conflicts_b3 v0 st1 st2) (fun st3 => ⟨fr [(4, .sl (.sl (.pair (.int .i64) .bool)) v0.1), (6, .int .i64 st3.1), (7, .int .i64 st1.2), (9, .int .i64 st2.2), (21, .sl (.sl (.pair (.int .i64) .bool)) v0.1), (22, .int .i64 (v0.1.length : Int)), (23, .int .i64 st1.2), (29, .int .i64 ((v0.1.getD st1.2.toNat []).length : Int)), (30, .int .i64 st2.2), (35, .sl (.sl (.pair (.int .i64) .bool)) (v0.1.take st1.2.toNat)), (36, .int .i64 ((v0.1.take st1.2.toNat).length : Int)), (37, .int .i64 st3.2)], hpGet [], gt⟩) (st2.1, 0) hw21 (zL [] [] []) ?_
         as_aux_lemma =>
          intro st3 x24 h hd23
          unfold delay_Conflicts_b3 at h
          refine zo ?_
          refine zB [(4, .sl (.sl (.pair (.int .i64) .bool)) v0.1), (6, .int .i64 st3.1), (7, .int .i64 st1.2), (9, .int .i64 st2.2), (21, .sl (.sl (.pair (.int .i64) .bool)) v0.1), (22, .int .i64 (v0.1.length : Int)), (23, .int .i64 st1.2), (29, .int .i64 ((v0.1.getD st1.2.toNat []).length : Int)), (30, .int .i64 st2.2), (35, .sl (.sl (.pair (.int .i64) .bool)) (v0.1.take st1.2.toNat)), (36, .int .i64 ((v0.1.take st1.2.toNat).length : Int)), (37, .int .i64 st3.2), (38, .bool (decide (st3.2 < ((v0.1.take st1.2.toNat).length : Int))))] [] ?_
          refine AW.seq ?_
          refine zQ h (fun hb26 h => ?_) (fun hb26 h => ?_)
          ·refine zk ?_
           refine AW.have1 (fun b4 : Int => delay_Conflicts_k4 st3 b4 = some x24) (fun b4 => ⟨fr [(4, .sl (.sl (.pair (.int .i64) .bool)) v0.1), (6, .int .i64 b4), (7, .int .i64 st1.2), (9, .int .i64 st2.2), (21, .sl (.sl (.pair (.int .i64) .bool)) v0.1), (22, .int .i64 (v0.1.length : Int)), (23, .int .i64 st1.2), (29, .int .i64 ((v0.1.getD st1.2.toNat []).length : Int)), (30, .int .i64 st2.2), (35, .sl (.sl (.pair (.int .i64) .bool)) (v0.1.take st1.2.toNat)), (36, .int .i64 ((v0.1.take st1.2.toNat).length : Int)), (37, .int .i64 st3.2)], hpGet [], gt⟩) (fun b4 h => ?_) (fun hk_delay_Conflicts_k4 => ?_)
           ·as_aux_lemma =>
             unfold delay_Conflicts_k4 at h
             refine AW.ops ?_
             obtain ⟨c27, h⟩ := ck_some.1 h
             refine zA [(4, .sl (.sl (.pair (.int .i64) .bool)) v0.1), (6, .int .i64 b4), (7, .int .i64 st1.2), (9, .int .i64 st2.2), (21, .sl (.sl (.pair (.int .i64) .bool)) v0.1), (22, .int .i64 (v0.1.length : Int)), (23, .int .i64 st1.2), (29, .int .i64 ((v0.1.getD st1.2.toNat []).length : Int)), (30, .int .i64 st2.2), (35, .sl (.sl (.pair (.int .i64) .bool)) (v0.1.take st1.2.toNat)), (36, .int .i64 ((v0.1.take st1.2.toNat).length : Int)), (37, .int .i64 (st3.2 + 1))] [] ?_
             obtain rfl := Option.some.inj h
             exact ⟨_, rfl, zL [] [] []⟩
           ·refine AW.seq ?_
            refine AW.block ?_
            refine zo ?_
            obtain ⟨c28, h⟩ := ck_some.1 h
            obtain ⟨c29, h⟩ := ck_some.1 h
            refine zB [(4, .sl (.sl (.pair (.int .i64) .bool)) v0.1), (6, .int .i64 st3.1), (7, .int .i64 st1.2), (9, .int .i64 st2.2), (10, .int .i64 st3.2), (11, .sl (.pair (.int .i64) .bool) ((v0.1.take st1.2.toNat).getD st3.2.toNat [])), (21, .sl (.sl (.pair (.int .i64) .bool)) v0.1), (22, .int .i64 (v0.1.length : Int)), (23, .int .i64 st1.2), (29, .int .i64 ((v0.1.getD st1.2.toNat []).length : Int)), (30, .int .i64 st2.2), (35, .sl (.sl (.pair (.int .i64) .bool)) (v0.1.take st1.2.toNat)), (36, .int .i64 ((v0.1.take st1.2.toNat).length : Int)), (37, .int .i64 st3.2)] [] ?_
            refine zo ?_
            refine zB [(4, .sl (.sl (.pair (.int .i64) .bool)) v0.1), (6, .int .i64 st3.1), (7, .int .i64 st1.2), (9, .int .i64 st2.2), (10, .int .i64 st3.2), (21, .sl (.sl (.pair (.int .i64) .bool)) v0.1), (22, .int .i64 (v0.1.length : Int)), (23, .int .i64 st1.2), (29, .int .i64 ((v0.1.getD st1.2.toNat []).length : Int)), (30, .int .i64 st2.2), (35, .sl (.sl (.pair (.int .i64) .bool)) (v0.1.take st1.2.toNat)), (36, .int .i64 ((v0.1.take st1.2.toNat).length : Int)), (37, .int .i64 st3.2), (43, .int .i64 (((v0.1.take st1.2.toNat).getD st3.2.toNat []).length : Int)), (44, .int .i64 0)] [] ?_
            refine AW.block ?_
            obtain ⟨rv34, hw30, ho31⟩ := Option.bind_eq_some_iff.1 h
            refine AW.loopO (delay_Conflicts_b4 v0 st1 st2 st3) (fun st4 => ⟨fr [(4, .sl (.sl (.pair (.int .i64) .bool)) v0.1), (6, .int .i64 st4.1), (7, .int .i64 st1.2), (9, .int .i64 st2.2), (10, .int .i64 st3.2), (21, .sl (.sl (.pair (.int .i64) .bool)) v0.1), (22, .int .i64 (v0.1.length : Int)), (23, .int .i64 st1.2), (29, .int .i64 ((v0.1.getD st1.2.toNat []).length : Int)), (30, .int .i64 st2.2), (35, .sl (.sl (.pair (.int .i64) .bool)) (v0.1.take st1.2.toNat)), (36, .int .i64 ((v0.1.take st1.2.toNat).length : Int)), (37, .int .i64 st3.2), (43, .int .i64 (((v0.1.take st1.2.toNat).getD st3.2.toNat []).length : Int)), (44, .int .i64 st4.2)], hpGet [], gt⟩) (st3.1, 0) hw30 (zL [] [] []) ?_
            as_aux_lemma =>
             intro st4 x33 h hd32
             unfold delay_Conflicts_b4 at h
             refine zo ?_
             refine zB [(4, .sl (.sl (.pair (.int .i64) .bool)) v0.1), (6, .int .i64 st4.1), (7, .int .i64 st1.2), (9, .int .i64 st2.2), (10, .int .i64 st3.2), (21, .sl (.sl (.pair (.int .i64) .bool)) v0.1), (22, .int .i64 (v0.1.length : Int)), (23, .int .i64 st1.2), (29, .int .i64 ((v0.1.getD st1.2.toNat []).length : Int)), (30, .int .i64 st2.2), (35, .sl (.sl (.pair (.int .i64) .bool)) (v0.1.take st1.2.toNat)), (36, .int .i64 ((v0.1.take st1.2.toNat).length : Int)), (37, .int .i64 st3.2), (43, .int .i64 (((v0.1.take st1.2.toNat).getD st3.2.toNat []).length : Int)), (44, .int .i64 st4.2), (45, .bool (decide (st4.2 < (((v0.1.take st1.2.toNat).getD st3.2.toNat []).length : Int))))] [] ?_
             refine AW.seq ?_
             refine zQ h (fun hb35 h => ?_) (fun hb35 h => ?_)
             ·refine zk ?_
              refine AW.seq ?_
              refine AW.block ?_
              refine zo ?_
              refine zB [(4, .sl (.sl (.pair (.int .i64) .bool)) v0.1), (6, .int .i64 st4.1), (7, .int .i64 st1.2), (9, .int .i64 st2.2), (10, .int .i64 st3.2), (12, .int .i64 st4.2), (21, .sl (.sl (.pair (.int .i64) .bool)) v0.1), (22, .int .i64 (v0.1.length : Int)), (23, .int .i64 st1.2), (29, .int .i64 ((v0.1.getD st1.2.toNat []).length : Int)), (30, .int .i64 st2.2), (35, .sl (.sl (.pair (.int .i64) .bool)) (v0.1.take st1.2.toNat)), (36, .int .i64 ((v0.1.take st1.2.toNat).length : Int)), (37, .int .i64 st3.2), (43, .int .i64 (((v0.1.take st1.2.toNat).getD st3.2.toNat []).length : Int)), (44, .int .i64 st4.2)] [] ?_
              refine zo ?_
              refine zS 5 [(4, .sl (.sl (.pair (.int .i64) .bool)) v0.1), (6, .int .i64 st4.1), (7, .int .i64 st1.2), (9, .int .i64 st2.2), (10, .int .i64 st3.2), (21, .sl (.sl (.pair (.int .i64) .bool)) v0.1), (22, .int .i64 (v0.1.length : Int)), (23, .int .i64 st1.2), (29, .int .i64 ((v0.1.getD st1.2.toNat []).length : Int)), (30, .int .i64 st2.2), (35, .sl (.sl (.pair (.int .i64) .bool)) (v0.1.take st1.2.toNat)), (36, .int .i64 ((v0.1.take st1.2.toNat).length : Int)), (37, .int .i64 st3.2), (43, .int .i64 (((v0.1.take st1.2.toNat).getD st3.2.toNat []).length : Int)), (44, .int .i64 st4.2), (47, .sl (.sl (.pair (.int .i64) .bool)) v0.1), (48, .int .i64 st1.2), (49, .int .i64 st2.2), (50, .int .i64 st3.2), (51, .int .i64 st4.2)] [] ?_
              obtain ⟨v0_2, hv36, h⟩ := Option.bind_eq_some_iff.1 h
              refine zC [] [] (hc_delay_accesses_conflict v0.1 st1.2 st2.2 st3.2 st4.2 hv36) [(4, .sl (.sl (.pair (.int .i64) .bool)) v0.1), (6, .int .i64 st4.1), (7, .int .i64 st1.2), (9, .int .i64 st2.2), (10, .int .i64 st3.2), (21, .sl (.sl (.pair (.int .i64) .bool)) v0.1), (22, .int .i64 (v0.1.length : Int)), (23, .int .i64 st1.2), (29, .int .i64 ((v0.1.getD st1.2.toNat []).length : Int)), (30, .int .i64 st2.2), (35, .sl (.sl (.pair (.int .i64) .bool)) (v0.1.take st1.2.toNat)), (36, .int .i64 ((v0.1.take st1.2.toNat).length : Int)), (37, .int .i64 st3.2), (43, .int .i64 (((v0.1.take st1.2.toNat).getD st3.2.toNat []).length : Int)), (44, .int .i64 st4.2), (52, .bool v0_2)] [] ?_
              refine zB [(4, .sl (.sl (.pair (.int .i64) .bool)) v0.1), (6, .int .i64 st4.1), (7, .int .i64 st1.2), (9, .int .i64 st2.2), (10, .int .i64 st3.2), (21, .sl (.sl (.pair (.int .i64) .bool)) v0.1), (22, .int .i64 (v0.1.length : Int)), (23, .int .i64 st1.2), (29, .int .i64 ((v0.1.getD st1.2.toNat []).length : Int)), (30, .int .i64 st2.2), (35, .sl (.sl (.pair (.int .i64) .bool)) (v0.1.take st1.2.toNat)), (36, .int .i64 ((v0.1.take st1.2.toNat).length : Int)), (37, .int .i64 st3.2), (43, .int .i64 (((v0.1.take st1.2.toNat).getD st3.2.toNat []).length : Int)), (44, .int .i64 st4.2), (52, .bool v0_2)] [] ?_
              refine zQ h (fun hb37 h => ?_) (fun hb37 h => ?_)
              ·refine AW.ops ?_
               obtain ⟨c38, h⟩ := ck_some.1 h
               refine zA [(4, .sl (.sl (.pair (.int .i64) .bool)) v0.1), (6, .int .i64 (st4.1 + 1)), (7, .int .i64 st1.2), (9, .int .i64 st2.2), (10, .int .i64 st3.2), (21, .sl (.sl (.pair (.int .i64) .bool)) v0.1), (22, .int .i64 (v0.1.length : Int)), (23, .int .i64 st1.2), (29, .int .i64 ((v0.1.getD st1.2.toNat []).length : Int)), (30, .int .i64 st2.2), (35, .sl (.sl (.pair (.int .i64) .bool)) (v0.1.take st1.2.toNat)), (36, .int .i64 ((v0.1.take st1.2.toNat).length : Int)), (37, .int .i64 st3.2), (43, .int .i64 (((v0.1.take st1.2.toNat).getD st3.2.toNat []).length : Int)), (44, .int .i64 st4.2)] [] ?_
               refine ablock_n ?_
               refine athen_n ?_
               refine AW.ops ?_
               obtain ⟨c39, h⟩ := ck_some.1 h
               refine zA [(4, .sl (.sl (.pair (.int .i64) .bool)) v0.1), (6, .int .i64 (st4.1 + 1)), (7, .int .i64 st1.2), (9, .int .i64 st2.2), (10, .int .i64 st3.2), (21, .sl (.sl (.pair (.int .i64) .bool)) v0.1), (22, .int .i64 (v0.1.length : Int)), (23, .int .i64 st1.2), (29, .int .i64 ((v0.1.getD st1.2.toNat []).length : Int)), (30, .int .i64 st2.2), (35, .sl (.sl (.pair (.int .i64) .bool)) (v0.1.take st1.2.toNat)), (36, .int .i64 ((v0.1.take st1.2.toNat).length : Int)), (37, .int .i64 st3.2), (43, .int .i64 (((v0.1.take st1.2.toNat).getD st3.2.toNat []).length : Int)), (44, .int .i64 (st4.2 + 1))] [] ?_
               obtain rfl := Option.some.inj h
               exact ⟨_, rfl, zL [] [] []⟩
              ·refine zm ?_
               refine athen_n ?_
               refine AW.ops ?_
               obtain ⟨c40, h⟩ := ck_some.1 h
               refine zA [(4, .sl (.sl (.pair (.int .i64) .bool)) v0.1), (6, .int .i64 st4.1), (7, .int .i64 st1.2), (9, .int .i64 st2.2), (10, .int .i64 st3.2), (21, .sl (.sl (.pair (.int .i64) .bool)) v0.1), (22, .int .i64 (v0.1.length : Int)), (23, .int .i64 st1.2), (29, .int .i64 ((v0.1.getD st1.2.toNat []).length : Int)), (30, .int .i64 st2.2), (35, .sl (.sl (.pair (.int .i64) .bool)) (v0.1.take st1.2.toNat)), (36, .int .i64 ((v0.1.take st1.2.toNat).length : Int)), (37, .int .i64 st3.2), (43, .int .i64 (((v0.1.take st1.2.toNat).getD st3.2.toNat []).length : Int)), (44, .int .i64 (st4.2 + 1))] [] ?_
               obtain rfl := Option.some.inj h
               exact ⟨_, rfl, zL [] [] []⟩
             ·refine AW.exit ?_
              refine athen_e ?_
              obtain rfl := Option.some.inj h
              rw [← hd32 _ rfl] at ho31
              have h := ho31
              refine athen_e ?_
              refine ablock_s ?_
              refine ablock_n ?_
              refine athen_n ?_
              exact AW.weaken (zL [] [] []) (hk_delay_Conflicts_k4 _ h)
          ·refine AW.exit ?_
           refine athen_e ?_
           obtain rfl := Option.some.inj h
           rw [← hd23 _ rfl] at ho22
           have h := ho22
           refine athen_e ?_
           refine ablock_s ?_
           refine ablock_n ?_
           refine athen_n ?_
           exact AW.weaken (zL [] [] []) (hk_delay_Conflicts_k3 _ h)
       ·refine AW.exit ?_
        refine athen_e ?_
        obtain rfl := Option.some.inj h
        rw [← hd14 _ rfl] at ho13
        have h := ho13
        refine athen_e ?_
        refine ablock_s ?_
        refine ablock_n ?_
        refine athen_n ?_
        exact AW.weaken (zL [] [] []) (hk_delay_Conflicts_k2 _ h)
    ·refine AW.exit ?_
     refine athen_e ?_
     obtain rfl := Option.some.inj h
     rw [← hd5 _ rfl] at ho4
     have h := ho4
     refine athen_e ?_
     refine ablock_s ?_
     refine athen_n ?_
     exact AW.weaken (zL [] [] []) (hk_delay_Conflicts_k1 _ h)

theorem hc_lineallaw09_DelayLess (x0 : List (List (Int × Bool))) (thread : Int) (access : Int) {r : Bool} (h : lineallaw09_DelayLess x0 thread access = some r) : HC Try.prog 9 [] [.sl (.sl (.pair (.int .i64) .bool)) x0, .int .u8 thread, .int .u8 access] [] (.bool r) := by
 unfold lineallaw09_DelayLess at h
 refine zH Try.func9 [.tmp 6] 120 ?_
 refine zo ?_
 refine zB [(0, .sl (.sl (.pair (.int .i64) .bool)) x0), (1, .int .u8 thread), (2, .int .u8 access)] [] ?_
 refine AW.seq ?_
 refine zo ?_
 refine zS 1 [(0, .sl (.sl (.pair (.int .i64) .bool)) x0), (1, .int .u8 thread), (2, .int .u8 access), (20, .sl (.sl (.pair (.int .i64) .bool)) x0)] [] ?_
 obtain ⟨v0, hv1, h⟩ := Option.bind_eq_some_iff.1 h
 refine zC [] [] (hc_lineallaw09_Long x0 hv1) [(0, .sl (.sl (.pair (.int .i64) .bool)) x0), (1, .int .u8 thread), (2, .int .u8 access), (21, .bool v0)] [] ?_
 refine zS 1 [(0, .sl (.sl (.pair (.int .i64) .bool)) x0), (1, .int .u8 thread), (2, .int .u8 access), (22, .bool v0)] [] ?_
 rcases zI h with ⟨hb2, h⟩ | ⟨hb2, h⟩
 ·refine zB [(0, .sl (.sl (.pair (.int .i64) .bool)) x0), (1, .int .u8 thread), (2, .int .u8 access), (26, .bool true)] [] ?_
  refine AW.cond (b := true) rfl (fun _ => ?_) (fun hb3 => by cases hb3)
  refine zo ?_
  obtain ⟨v0_2, hv4, h⟩ := Option.bind_eq_some_iff.1 h
  refine zC [] [] (hc_lineallaw09_Awake hv4) [(27, .bool v0_2)] [] ?_
  refine zB [(6, .bool v0_2)] [] ?_
  refine zr ?_
  obtain rfl := Option.some.inj h
  exact zR [] [] []
 ·refine zS 1 [(0, .sl (.sl (.pair (.int .i64) .bool)) x0), (1, .int .u8 thread), (2, .int .u8 access), (22, .bool false), (23, .sl (.sl (.pair (.int .i64) .bool)) x0)] [] ?_
  obtain ⟨v0_3, hv5, h⟩ := Option.bind_eq_some_iff.1 h
  refine zG [] [] (hc_linealref09_Valid x0 hv5) [(0, .sl (.sl (.pair (.int .i64) .bool)) x0), (1, .int .u8 thread), (2, .int .u8 access), (22, .bool false), (24, .bool v0_3)] [] ?_
  refine zB [(0, .sl (.sl (.pair (.int .i64) .bool)) x0), (1, .int .u8 thread), (2, .int .u8 access), (26, .bool (!v0_3))] [] ?_
  refine zQ h (fun hb6 h => ?_) (fun hb6 h => ?_)
  ·refine zo ?_
   obtain ⟨v0_4, hv7, h⟩ := Option.bind_eq_some_iff.1 h
   refine zC [] [] (hc_lineallaw09_Awake hv7) [(27, .bool v0_4)] [] ?_
   refine zB [(6, .bool v0_4)] [] ?_
   refine zr ?_
   obtain rfl := Option.some.inj h
   exact zR [] [] []
  ·refine zk ?_
   refine zo ?_
   obtain ⟨c8, h⟩ := ck_some.1 h
   obtain ⟨c9, h⟩ := ck_some.1 h
   obtain ⟨c10, h⟩ := ck_some.1 h
   refine zS 5 [(0, .sl (.sl (.pair (.int .i64) .bool)) x0), (2, .int .u8 access), (32, .int .i64 (thread % (x0.length : Int)))] [] ?_
   refine zB [(0, .sl (.sl (.pair (.int .i64) .bool)) x0), (2, .int .u8 access), (7, .int .i64 (thread % (x0.length : Int)))] [] ?_
   refine AW.seq ?_
   refine zo ?_
   obtain ⟨c11, h⟩ := ck_some.1 h
   obtain ⟨c12, h⟩ := ck_some.1 h
   refine zS 5 [(0, .sl (.sl (.pair (.int .i64) .bool)) x0), (2, .int .u8 access), (7, .int .i64 (thread % (x0.length : Int))), (37, .int .i64 ((x0.getD (thread % (x0.length : Int)).toNat []).length : Int))] [] ?_
   refine zB [(0, .sl (.sl (.pair (.int .i64) .bool)) x0), (2, .int .u8 access), (7, .int .i64 (thread % (x0.length : Int))), (38, .bool (decide (((x0.getD (thread % (x0.length : Int)).toNat []).length : Int) = 0)))] [] ?_
   refine zQ h (fun hb13 h => ?_) (fun hb13 h => ?_)
   ·refine zo ?_
    obtain ⟨v0_5, hv14, h⟩ := Option.bind_eq_some_iff.1 h
    refine zC [] [] (hc_lineallaw09_Awake hv14) [(39, .bool v0_5)] [] ?_
    refine zB [(6, .bool v0_5)] [] ?_
    refine zr ?_
    obtain rfl := Option.some.inj h
    exact zR [] [] []
   ·refine zk ?_
    refine zo ?_
    obtain ⟨c15, h⟩ := ck_some.1 h
    obtain ⟨c16, h⟩ := ck_some.1 h
    obtain ⟨c17, h⟩ := ck_some.1 h
    refine zS 5 [(0, .sl (.sl (.pair (.int .i64) .bool)) x0), (7, .int .i64 (thread % (x0.length : Int))), (41, .int .i64 access), (44, .dp (.sl (.pair (.int .i64) .bool)) (x0.getD (thread % (x0.length : Int)).toNat []) 0)] [] ?_
    obtain ⟨c18, h⟩ := ck_some.1 h
    obtain ⟨c19, h⟩ := ck_some.1 h
    refine zB [(0, .sl (.sl (.pair (.int .i64) .bool)) x0), (7, .int .i64 (thread % (x0.length : Int))), (8, .int .i64 (access % ((x0.getD (thread % (x0.length : Int)).toNat []).length : Int)))] [] ?_
    refine zo ?_
    refine zB [(0, .sl (.sl (.pair (.int .i64) .bool)) x0), (7, .int .i64 (thread % (x0.length : Int))), (8, .int .i64 (access % ((x0.getD (thread % (x0.length : Int)).toNat []).length : Int))), (9, .cv (.slice none 0 0))] [] ?_
    refine AW.have1 (fun b1 : (List (List (Int × Bool))) => lineallaw09_DelayLess_k1 x0 b1 = some r) (fun b1 => ⟨fr [(0, .sl (.sl (.pair (.int .i64) .bool)) x0), (9, .own 71)], hpGet [(71, .arr 68 (.sl (.pair (.int .i64) .bool)) b1)], gt⟩) (fun b1 h => ?_) (fun hk_lineallaw09_DelayLess_k1 => ?_)
    ·as_aux_lemma =>
      unfold lineallaw09_DelayLess_k1 at h
      refine zo ?_
      refine zS 1 [(0, .sl (.sl (.pair (.int .i64) .bool)) x0), (9, .own 71), (74, .sl (.sl (.pair (.int .i64) .bool)) x0)] [(71, .arr 68 (.sl (.pair (.int .i64) .bool)) b1)] ?_
      obtain ⟨v0_6, hv20, h⟩ := Option.bind_eq_some_iff.1 h
      refine zC [] [] (hc_delay_Circles x0 hv20) [(0, .sl (.sl (.pair (.int .i64) .bool)) x0), (9, .own 71), (75, .tup [.int .i64 v0_6.1, .int .i64 v0_6.2])] [(71, .arr 68 (.sl (.pair (.int .i64) .bool)) b1)] ?_
      refine zB [(0, .sl (.sl (.pair (.int .i64) .bool)) x0), (9, .own 71), (12, .int .i64 v0_6.1), (13, .int .i64 v0_6.2)] [(71, .arr 68 (.sl (.pair (.int .i64) .bool)) b1)] ?_
      refine zo ?_
      refine zS 1 [(0, .sl (.sl (.pair (.int .i64) .bool)) x0), (9, .own 71), (12, .int .i64 v0_6.1), (13, .int .i64 v0_6.2), (79, .own 71)] [(71, .arr 68 (.sl (.pair (.int .i64) .bool)) b1)] ?_
      obtain ⟨v0_7, hv21, h⟩ := Option.bind_eq_some_iff.1 h
      refine zC [71] [] (hc_delay_Circles b1 hv21) [(0, .sl (.sl (.pair (.int .i64) .bool)) x0), (9, .own 71), (12, .int .i64 v0_6.1), (13, .int .i64 v0_6.2), (80, .tup [.int .i64 v0_7.1, .int .i64 v0_7.2])] [(71, .arr 68 (.sl (.pair (.int .i64) .bool)) b1)] ?_
      refine zB [(0, .sl (.sl (.pair (.int .i64) .bool)) x0), (9, .own 71), (12, .int .i64 v0_6.1), (13, .int .i64 v0_6.2), (14, .int .i64 v0_7.1), (15, .int .i64 v0_7.2)] [(71, .arr 68 (.sl (.pair (.int .i64) .bool)) b1)] ?_
      refine zo ?_
      refine zS 1 [(9, .own 71), (12, .int .i64 v0_6.1), (13, .int .i64 v0_6.2), (14, .int .i64 v0_7.1), (15, .int .i64 v0_7.2), (84, .sl (.sl (.pair (.int .i64) .bool)) x0)] [(71, .arr 68 (.sl (.pair (.int .i64) .bool)) b1)] ?_
      obtain ⟨v0_8, hv22, h⟩ := Option.bind_eq_some_iff.1 h
      refine zC [] [] (hc_delay_Conflicts x0 hv22) [(9, .own 71), (12, .int .i64 v0_6.1), (13, .int .i64 v0_6.2), (14, .int .i64 v0_7.1), (15, .int .i64 v0_7.2), (85, .tup [.int .i64 v0_8.1, .int .i64 v0_8.2])] [(71, .arr 68 (.sl (.pair (.int .i64) .bool)) b1)] ?_
      refine zB [(9, .own 71), (12, .int .i64 v0_6.1), (13, .int .i64 v0_6.2), (14, .int .i64 v0_7.1), (15, .int .i64 v0_7.2), (16, .int .i64 v0_8.1), (17, .int .i64 v0_8.2)] [(71, .arr 68 (.sl (.pair (.int .i64) .bool)) b1)] ?_
      refine zo ?_
      refine zS 1 [(12, .int .i64 v0_6.1), (13, .int .i64 v0_6.2), (14, .int .i64 v0_7.1), (15, .int .i64 v0_7.2), (16, .int .i64 v0_8.1), (17, .int .i64 v0_8.2), (89, .own 71)] [(71, .arr 68 (.sl (.pair (.int .i64) .bool)) b1)] ?_
      obtain ⟨v0_9, hv23, h⟩ := Option.bind_eq_some_iff.1 h
      refine zC [71] [] (hc_delay_Conflicts b1 hv23) [(12, .int .i64 v0_6.1), (13, .int .i64 v0_6.2), (14, .int .i64 v0_7.1), (15, .int .i64 v0_7.2), (16, .int .i64 v0_8.1), (17, .int .i64 v0_8.2), (90, .tup [.int .i64 v0_9.1, .int .i64 v0_9.2])] [] ?_
      refine zB [(12, .int .i64 v0_6.1), (13, .int .i64 v0_6.2), (14, .int .i64 v0_7.1), (15, .int .i64 v0_7.2), (16, .int .i64 v0_8.1), (17, .int .i64 v0_8.2), (18, .int .i64 v0_9.1), (19, .int .i64 v0_9.2)] [] ?_
      refine zo ?_
      refine zS 3 [(12, .int .i64 v0_6.1), (14, .int .i64 v0_7.1), (15, .int .i64 v0_7.2), (16, .int .i64 v0_8.1), (17, .int .i64 v0_8.2), (18, .int .i64 v0_9.1), (19, .int .i64 v0_9.2), (95, .bool (decide (v0_6.2 = 0)))] [] ?_
      rcases zI h with ⟨hb24, h⟩ | ⟨hb24, h⟩
      ·refine zS 4 [(12, .int .i64 v0_6.1), (14, .int .i64 v0_7.1), (16, .int .i64 v0_8.1), (17, .int .i64 v0_8.2), (18, .int .i64 v0_9.1), (19, .int .i64 v0_9.2), (99, .bool (decide (v0_7.2 = 0)))] [] ?_
       rcases zI h with ⟨hb25, h⟩ | ⟨hb25, h⟩
       ·refine zS 4 [(12, .int .i64 v0_6.1), (14, .int .i64 v0_7.1), (16, .int .i64 v0_8.1), (18, .int .i64 v0_9.1), (19, .int .i64 v0_9.2), (103, .bool (decide (v0_8.2 = 0)))] [] ?_
        rcases zI h with ⟨hb26, h⟩ | ⟨hb26, h⟩
        ·refine zS 4 [(12, .int .i64 v0_6.1), (14, .int .i64 v0_7.1), (16, .int .i64 v0_8.1), (18, .int .i64 v0_9.1), (107, .bool (decide (v0_9.2 = 0)))] [] ?_
         rcases zI h with ⟨hb27, h⟩ | ⟨hb27, h⟩
         ·refine zS 5 [(16, .int .i64 v0_8.1), (18, .int .i64 v0_9.1), (112, .bool (decide (v0_7.1 ≤ v0_6.1)))] [] ?_
          rcases zI h with ⟨hb28, h⟩ | ⟨hb28, h⟩
          ·refine zS 5 [(117, .bool (decide (v0_9.1 ≤ v0_8.1)))] [] ?_
           rcases zI h with ⟨hb29, h⟩ | ⟨hb29, h⟩
           ·refine zT [(117, .bool true)] [] gt ?_
            obtain ⟨v0_10, hv30, h⟩ := Option.bind_eq_some_iff.1 h
            refine zG [] [] (hc_lineallaw09_Awake hv30) [(117, .bool true), (118, .bool v0_10)] [] ?_
            refine zB [(6, .bool v0_10)] [] ?_
            refine AW.ret ?_
            obtain rfl := Option.some.inj h
            exact zR [] [] []
           ·refine zB [(6, .bool false)] [] ?_
            refine AW.ret ?_
            obtain rfl := Option.some.inj h
            exact zR [] [] []
          ·refine zS 5 [(117, .bool false)] [] ?_
           refine zB [(6, .bool false)] [] ?_
           refine AW.ret ?_
           obtain rfl := Option.some.inj h
           exact zR [] [] []
         ·refine zS 5 [(16, .int .i64 v0_8.1), (18, .int .i64 v0_9.1), (112, .bool false)] [] ?_
          refine zS 5 [(117, .bool false)] [] ?_
          refine zB [(6, .bool false)] [] ?_
          refine AW.ret ?_
          obtain rfl := Option.some.inj h
          exact zR [] [] []
        ·refine zS 5 [(12, .int .i64 v0_6.1), (16, .int .i64 v0_8.1), (18, .int .i64 v0_9.1), (107, .bool false), (108, .cv (undef))] [] ?_
         refine zS 5 [(16, .int .i64 v0_8.1), (112, .bool false), (113, .cv (undef))] [] ?_
         refine zS 5 [(117, .bool false), (118, .cv (undef))] [] ?_
         refine zB [(6, .bool false)] [] ?_
         refine AW.ret ?_
         obtain rfl := Option.some.inj h
         exact zR [] [] []
       ·refine zS 5 [(12, .int .i64 v0_6.1), (14, .int .i64 v0_7.1), (16, .int .i64 v0_8.1), (18, .int .i64 v0_9.1), (103, .bool false), (104, .cv (undef))] [] ?_
        refine zS 5 [(16, .int .i64 v0_8.1), (18, .int .i64 v0_9.1), (107, .bool false), (108, .cv (undef)), (109, .cv (undef))] [] ?_
        refine zS 5 [(112, .bool false), (113, .cv (undef)), (114, .cv (undef))] [] ?_
        refine zS 5 [(119, .bool false)] [] ?_
        refine zB [(6, .bool false)] [] ?_
        refine AW.ret ?_
        obtain rfl := Option.some.inj h
        exact zR [] [] []
      ·refine zS 5 [(12, .int .i64 v0_6.1), (14, .int .i64 v0_7.1), (16, .int .i64 v0_8.1), (18, .int .i64 v0_9.1), (19, .int .i64 v0_9.2), (99, .bool false), (100, .cv (undef))] [] ?_
       refine zS 5 [(12, .int .i64 v0_6.1), (14, .int .i64 v0_7.1), (16, .int .i64 v0_8.1), (18, .int .i64 v0_9.1), (103, .bool false), (105, .cv (undef))] [] ?_
       refine zS 5 [(16, .int .i64 v0_8.1), (18, .int .i64 v0_9.1), (107, .bool false), (110, .cv (undef))] [] ?_
       refine zS 5 [(112, .bool false), (115, .cv (undef))] [] ?_
       refine zB [(6, .bool false)] [] ?_
       refine AW.ret ?_
       obtain rfl := Option.some.inj h
       exact zR [] [] []
    ·refine AW.seq ?_
     refine zo ?_
     refine zB [(0, .sl (.sl (.pair (.int .i64) .bool)) x0), (7, .int .i64 (thread % (x0.length : Int))), (8, .int .i64 (access % ((x0.getD (thread % (x0.length : Int)).toNat []).length : Int))), (9, .cv (.slice none 0 0)), (48, .sl (.sl (.pair (.int .i64) .bool)) x0), (49, .int .i64 (x0.length : Int)), (50, .int .i64 0)] [] ?_
     refine AW.block ?_
     obtain ⟨rv35, hw31, ho32⟩ := Option.bind_eq_some_iff.1 h
     refine AW.loopO (lineallaw09_DelayLess_b1 x0 thread access) (fun st1 => ⟨fr [(0, .sl (.sl (.pair (.int .i64) .bool)) x0), (7, .int .i64 (thread % (x0.length : Int))), (8, .int .i64 (access % ((x0.getD (thread % (x0.length : Int)).toNat []).length : Int))), (9, .own 71), (48, .sl (.sl (.pair (.int .i64) .bool)) x0), (49, .int .i64 (x0.length : Int)), (50, .int .i64 st1.2)], hpGet [(71, .arr 68 (.sl (.pair (.int .i64) .bool)) st1.1)], gt⟩) ([], 0) hw31 (zL [] [71] []) ?_
     as_aux_lemma =>
      intro st1 x34 h hd33
      unfold lineallaw09_DelayLess_b1 at h
      refine zo ?_
      refine zB [(0, .sl (.sl (.pair (.int .i64) .bool)) x0), (7, .int .i64 (thread % (x0.length : Int))), (8, .int .i64 (access % ((x0.getD (thread % (x0.length : Int)).toNat []).length : Int))), (9, .own 71), (48, .sl (.sl (.pair (.int .i64) .bool)) x0), (49, .int .i64 (x0.length : Int)), (50, .int .i64 st1.2), (51, .bool (decide (st1.2 < (x0.length : Int))))] [(71, .arr 68 (.sl (.pair (.int .i64) .bool)) st1.1)] ?_
      refine AW.seq ?_
      refine zQ h (fun hb36 h => ?_) (fun hb36 h => ?_)
      ·refine zk ?_
       refine AW.seq ?_
       refine AW.block ?_
       refine zo ?_
       obtain ⟨c37, h⟩ := ck_some.1 h
       obtain ⟨c38, h⟩ := ck_some.1 h
       refine zB [(0, .sl (.sl (.pair (.int .i64) .bool)) x0), (7, .int .i64 (thread % (x0.length : Int))), (8, .int .i64 (access % ((x0.getD (thread % (x0.length : Int)).toNat []).length : Int))), (9, .own 71), (10, .int .i64 st1.2), (11, .sl (.pair (.int .i64) .bool) (x0.getD st1.2.toNat [])), (48, .sl (.sl (.pair (.int .i64) .bool)) x0), (49, .int .i64 (x0.length : Int)), (50, .int .i64 st1.2)] [(71, .arr 68 (.sl (.pair (.int .i64) .bool)) st1.1)] ?_
       refine AW.seq ?_
       refine zo ?_
       refine zB [(0, .sl (.sl (.pair (.int .i64) .bool)) x0), (7, .int .i64 (thread % (x0.length : Int))), (8, .int .i64 (access % ((x0.getD (thread % (x0.length : Int)).toNat []).length : Int))), (9, .own 71), (11, .sl (.pair (.int .i64) .bool) (x0.getD st1.2.toNat [])), (48, .sl (.sl (.pair (.int .i64) .bool)) x0), (49, .int .i64 (x0.length : Int)), (50, .int .i64 st1.2), (57, .bool (decide (st1.2 = (thread % (x0.length : Int)))))] [(71, .arr 68 (.sl (.pair (.int .i64) .bool)) st1.1)] ?_
       refine zQ h (fun hb39 h => ?_) (fun hb39 h => ?_)
       ·refine AW.draw tab_ok mixed_ok [(0, [58]), (4, [58, 62]), (9, [62, 67])] [(1, []), (2, []), (3, []), (5, []), (6, []), (7, []), (8, [])] (by decide) (lex_fast (by kernel_rfl)) ?_
        as_aux_lemma =>
         obtain ⟨c41, h⟩ := ck_some.1 h
         obtain ⟨c42, h⟩ := ck_some.1 h
         obtain ⟨c43, h⟩ := ck_some.1 h
         refine adops_cut 6 (fun K' hK40 => ?_)
         try dsimp only [List.drop_succ_cons, List.drop_zero, List.take_succ_cons, List.take_zero]
         simp only [go_sem, hb2, hb6, hb13, hb36, hb39]
         repeat with_reducible refine zN ?_
         refine hK40 _ ?_
         as_aux_lemma =>
          obtain ⟨c45, h⟩ := ck_some.1 h
          obtain ⟨c46, h⟩ := ck_some.1 h
          obtain ⟨c47, h⟩ := ck_some.1 h
          obtain ⟨c48, h⟩ := ck_some.1 h
          refine adops_cut 5 (fun K' hK44 => ?_)
          try dsimp only [List.drop_succ_cons, List.drop_zero, List.take_succ_cons, List.take_zero]
          simp only [go_sem, hb2, hb6, hb13, hb36, hb39]
          repeat with_reducible refine zN ?_
          refine hK44 _ ?_
          refine adops_nil ?_
          refine athen_n ?_
          refine zV [(0, .sl (.sl (.pair (.int .i64) .bool)) x0), (7, .int .i64 (thread % (x0.length : Int))), (8, .int .i64 (access % ((x0.getD (thread % (x0.length : Int)).toNat []).length : Int))), (9, .own 71), (11, .own 67), (48, .sl (.sl (.pair (.int .i64) .bool)) x0), (49, .int .i64 (x0.length : Int)), (50, .int .i64 st1.2)] [(67, .arr 76 (.pair (.int .i64) .bool) (((x0.getD st1.2.toNat []).take (access % ((x0.getD (thread % (x0.length : Int)).toNat []).length : Int)).toNat) ++ ((x0.getD st1.2.toNat []).drop ((access % ((x0.getD (thread % (x0.length : Int)).toNat []).length : Int)) + 1).toNat))), (71, .arr 68 (.sl (.pair (.int .i64) .bool)) st1.1)] gt ?_
          as_aux_lemma =>
           refine AW.ops ?_
           obtain ⟨c49, h⟩ := ck_some.1 h
           refine zA [(0, .sl (.sl (.pair (.int .i64) .bool)) x0), (7, .int .i64 (thread % (x0.length : Int))), (8, .int .i64 (access % ((x0.getD (thread % (x0.length : Int)).toNat []).length : Int))), (9, .own 71), (48, .sl (.sl (.pair (.int .i64) .bool)) x0), (49, .int .i64 (x0.length : Int)), (50, .int .i64 st1.2)] [(71, .arr 68 (.sl (.pair (.int .i64) .bool)) (st1.1 ++ [(((x0.getD st1.2.toNat []).take (access % ((x0.getD (thread % (x0.length : Int)).toNat []).length : Int)).toNat) ++ ((x0.getD st1.2.toNat []).drop ((access % ((x0.getD (thread % (x0.length : Int)).toNat []).length : Int)) + 1).toNat))]))] ?_
           refine ablock_n ?_
           refine athen_n ?_
           refine AW.ops ?_
           obtain ⟨c50, h⟩ := ck_some.1 h
           refine zA [(0, .sl (.sl (.pair (.int .i64) .bool)) x0), (7, .int .i64 (thread % (x0.length : Int))), (8, .int .i64 (access % ((x0.getD (thread % (x0.length : Int)).toNat []).length : Int))), (9, .own 71), (48, .sl (.sl (.pair (.int .i64) .bool)) x0), (49, .int .i64 (x0.length : Int)), (50, .int .i64 (st1.2 + 1))] [(71, .arr 68 (.sl (.pair (.int .i64) .bool)) (st1.1 ++ [(((x0.getD st1.2.toNat []).take (access % ((x0.getD (thread % (x0.length : Int)).toNat []).length : Int)).toNat) ++ ((x0.getD st1.2.toNat []).drop ((access % ((x0.getD (thread % (x0.length : Int)).toNat []).length : Int)) + 1).toNat))]))] ?_
           obtain rfl := Option.some.inj h
           exact ⟨_, rfl, zL [] [] []⟩
       ·refine zk ?_
        refine AW.ops ?_
        obtain ⟨c51, h⟩ := ck_some.1 h
        refine zA [(0, .sl (.sl (.pair (.int .i64) .bool)) x0), (7, .int .i64 (thread % (x0.length : Int))), (8, .int .i64 (access % ((x0.getD (thread % (x0.length : Int)).toNat []).length : Int))), (9, .own 71), (48, .sl (.sl (.pair (.int .i64) .bool)) x0), (49, .int .i64 (x0.length : Int)), (50, .int .i64 st1.2)] [(71, .arr 68 (.sl (.pair (.int .i64) .bool)) (st1.1 ++ [(x0.getD st1.2.toNat [])]))] ?_
        refine ablock_n ?_
        refine athen_n ?_
        refine AW.ops ?_
        obtain ⟨c52, h⟩ := ck_some.1 h
        refine zA [(0, .sl (.sl (.pair (.int .i64) .bool)) x0), (7, .int .i64 (thread % (x0.length : Int))), (8, .int .i64 (access % ((x0.getD (thread % (x0.length : Int)).toNat []).length : Int))), (9, .own 71), (48, .sl (.sl (.pair (.int .i64) .bool)) x0), (49, .int .i64 (x0.length : Int)), (50, .int .i64 (st1.2 + 1))] [(71, .arr 68 (.sl (.pair (.int .i64) .bool)) (st1.1 ++ [(x0.getD st1.2.toNat [])]))] ?_
        obtain rfl := Option.some.inj h
        exact ⟨_, rfl, zL [] [] []⟩
      ·refine AW.exit ?_
       refine athen_e ?_
       obtain rfl := Option.some.inj h
       rw [← hd33 _ rfl] at ho32
       have h := ho32
       refine athen_e ?_
       refine ablock_s ?_
       refine athen_n ?_
       exact AW.weaken (zL [] [] []) (hk_lineallaw09_DelayLess_k1 _ h)

end Go.Proofs.Ytdicomoggfhbfaa
