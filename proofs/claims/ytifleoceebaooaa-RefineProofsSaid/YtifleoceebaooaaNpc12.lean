/-
  Made by wip/tool/dc.py out of the print of the program: contracts.
-/
import Derived.Test.YtifleoceebaooaaRfp
import Derived.Test.YtifleoceebaooaaShr
import Derived.Test.YtifleoceebaooaaAvd
import Derived.Test.YtifleoceebaooaaNpc1
import Derived.Test.YtifleoceebaooaaNpc10
import Derived.Test.YtifleoceebaooaaNpc11
import Derived.Test.YtifleoceebaooaaNpc4
import Derived.Test.YtifleoceebaooaaNpc6
import Derived.Test.YtifleoceebaooaaNpc7
import Derived.Test.YtifleoceebaooaaNpc8
import Derived.Test.YtifleoceebaooaaNpc9
namespace Go.Proofs.Ytifleoceebaooaa
open Go.RowKit

set_option linter.unusedSimpArgs false
set_option linter.unusedVariables false
set_option linter.constructorNameAsVariable false

set_option maxRecDepth 100000
set_option maxHeartbeats 2000000

theorem hc_linealref05_IsProof (c : Int × (List (Int × Int × Int))) (a : Int × (List (Int × Int × Int))) (r0 : List (Int × Int)) {r : Bool × Int} (h : linealref05_IsProof c a r0 = some r) : HC Try.prog 38 [] [.agg [.int .i64 c.1, .sl (.pair (.int .i64) (.pair (.int .i64) (.int .i64))) c.2], .agg [.int .i64 a.1, .sl (.pair (.int .i64) (.pair (.int .i64) (.int .i64))) a.2], .sl (.pair (.int .i64) (.int .i64)) r0] [] (.tup [.bool r.1, .int .i64 r.2]) := by
 unfold linealref05_IsProof at h
 refine zH Try.func38 [.tmp 6, .tmp 7] 64 ?_
 refine zo ?_
 refine zB [(2, .sl (.pair (.int .i64) (.int .i64)) r0), (3, .bp 3 0), (4, .bp 4 0)] [(3, .box 24 [.int .i64 c.1, .sl (.pair (.int .i64) (.pair (.int .i64) (.int .i64))) c.2]), (4, .box 24 [.int .i64 a.1, .sl (.pair (.int .i64) (.pair (.int .i64) (.int .i64))) a.2])] ?_
 refine AW.seq ?_
 refine zo ?_
 refine zS 1 [(2, .sl (.pair (.int .i64) (.int .i64)) r0), (3, .bp 3 0), (4, .bp 4 0), (13, .agg [.int .i64 c.1, .sl (.pair (.int .i64) (.pair (.int .i64) (.int .i64))) c.2])] [(3, .box 24 [.int .i64 c.1, .sl (.pair (.int .i64) (.pair (.int .i64) (.int .i64))) c.2]), (4, .box 24 [.int .i64 a.1, .sl (.pair (.int .i64) (.pair (.int .i64) (.int .i64))) a.2])] ?_
 obtain ⟨v0, hv1, h⟩ := Option.bind_eq_some_iff.1 h
 refine zC [] [] (hc_linealref05_Valid c hv1) [(2, .sl (.pair (.int .i64) (.int .i64)) r0), (3, .bp 3 0), (4, .bp 4 0), (14, .bool v0)] [(3, .box 24 [.int .i64 c.1, .sl (.pair (.int .i64) (.pair (.int .i64) (.int .i64))) c.2]), (4, .box 24 [.int .i64 a.1, .sl (.pair (.int .i64) (.pair (.int .i64) (.int .i64))) a.2])] ?_
 refine zS 2 [(2, .sl (.pair (.int .i64) (.int .i64)) r0), (3, .bp 3 0), (4, .bp 4 0), (16, .bool (!v0))] [(3, .box 24 [.int .i64 c.1, .sl (.pair (.int .i64) (.pair (.int .i64) (.int .i64))) c.2]), (4, .box 24 [.int .i64 a.1, .sl (.pair (.int .i64) (.pair (.int .i64) (.int .i64))) a.2])] ?_
 rcases zI h with ⟨hb2, h⟩ | ⟨hb2, h⟩
 ·refine zB [(2, .sl (.pair (.int .i64) (.int .i64)) r0), (3, .bp 3 0), (4, .bp 4 0), (20, .bool true)] [(3, .box 24 [.int .i64 c.1, .sl (.pair (.int .i64) (.pair (.int .i64) (.int .i64))) c.2]), (4, .box 24 [.int .i64 a.1, .sl (.pair (.int .i64) (.pair (.int .i64) (.int .i64))) a.2])] ?_
  refine AW.cond (b := true) rfl (fun _ => ?_) (fun hb3 => by cases hb3)
  refine zo ?_
  refine zB [(6, .bool false), (7, .int .i64 50)] [] ?_
  refine zr ?_
  obtain rfl := Option.some.inj h
  exact zR [] [] []
 ·refine zS 1 [(2, .sl (.pair (.int .i64) (.int .i64)) r0), (3, .bp 3 0), (4, .bp 4 0), (16, .bool false), (17, .agg [.int .i64 a.1, .sl (.pair (.int .i64) (.pair (.int .i64) (.int .i64))) a.2])] [(3, .box 24 [.int .i64 c.1, .sl (.pair (.int .i64) (.pair (.int .i64) (.int .i64))) c.2]), (4, .box 24 [.int .i64 a.1, .sl (.pair (.int .i64) (.pair (.int .i64) (.int .i64))) a.2])] ?_
  obtain ⟨v0_2, hv4, h⟩ := Option.bind_eq_some_iff.1 h
  refine zG [] [] (hc_linealref05_Valid a hv4) [(2, .sl (.pair (.int .i64) (.int .i64)) r0), (3, .bp 3 0), (4, .bp 4 0), (16, .bool false), (18, .bool v0_2)] [(3, .box 24 [.int .i64 c.1, .sl (.pair (.int .i64) (.pair (.int .i64) (.int .i64))) c.2]), (4, .box 24 [.int .i64 a.1, .sl (.pair (.int .i64) (.pair (.int .i64) (.int .i64))) a.2])] ?_
  refine zB [(2, .sl (.pair (.int .i64) (.int .i64)) r0), (3, .bp 3 0), (4, .bp 4 0), (20, .bool (!v0_2))] [(3, .box 24 [.int .i64 c.1, .sl (.pair (.int .i64) (.pair (.int .i64) (.int .i64))) c.2]), (4, .box 24 [.int .i64 a.1, .sl (.pair (.int .i64) (.pair (.int .i64) (.int .i64))) a.2])] ?_
  refine zQ h (fun hb5 h => ?_) (fun hb5 h => ?_)
  ·refine zo ?_
   refine zB [(6, .bool false), (7, .int .i64 50)] [] ?_
   refine zr ?_
   obtain rfl := Option.some.inj h
   exact zR [] [] []
  ·refine zk ?_
   refine AW.seq ?_
   refine zo ?_
   refine zS 5 [(2, .sl (.pair (.int .i64) (.int .i64)) r0), (3, .bp 3 0), (4, .bp 4 0), (21, .sl (.pair (.int .i64) (.int .i64)) r0), (23, .int .i64 c.1), (25, .int .i64 a.1)] [(3, .box 24 [.int .i64 c.1, .sl (.pair (.int .i64) (.pair (.int .i64) (.int .i64))) c.2]), (4, .box 24 [.int .i64 a.1, .sl (.pair (.int .i64) (.pair (.int .i64) (.int .i64))) a.2])] ?_
   obtain ⟨v0_3, hv6, h⟩ := Option.bind_eq_some_iff.1 h
   refine zC [] [] (hc_linealref05_isRelation r0 c.1 a.1 hv6) [(2, .sl (.pair (.int .i64) (.int .i64)) r0), (3, .bp 3 0), (4, .bp 4 0), (26, .bool v0_3)] [(3, .box 24 [.int .i64 c.1, .sl (.pair (.int .i64) (.pair (.int .i64) (.int .i64))) c.2]), (4, .box 24 [.int .i64 a.1, .sl (.pair (.int .i64) (.pair (.int .i64) (.int .i64))) a.2])] ?_
   refine zB [(2, .sl (.pair (.int .i64) (.int .i64)) r0), (3, .bp 3 0), (4, .bp 4 0), (27, .bool (!v0_3))] [(3, .box 24 [.int .i64 c.1, .sl (.pair (.int .i64) (.pair (.int .i64) (.int .i64))) c.2]), (4, .box 24 [.int .i64 a.1, .sl (.pair (.int .i64) (.pair (.int .i64) (.int .i64))) a.2])] ?_
   refine zQ h (fun hb7 h => ?_) (fun hb7 h => ?_)
   ·refine zo ?_
    refine zB [(6, .bool false), (7, .int .i64 2)] [] ?_
    refine zr ?_
    obtain rfl := Option.some.inj h
    exact zR [] [] []
   ·refine zk ?_
    refine zo ?_
    obtain ⟨c8, h⟩ := ck_some.1 h
    obtain ⟨c9, h⟩ := ck_some.1 h
    refine zB [(2, .sl (.pair (.int .i64) (.int .i64)) r0), (3, .bp 3 0), (4, .bp 4 0), (8, .own 30)] [(3, .box 24 [.int .i64 c.1, .sl (.pair (.int .i64) (.pair (.int .i64) (.int .i64))) c.2]), (4, .box 24 [.int .i64 a.1, .sl (.pair (.int .i64) (.pair (.int .i64) (.int .i64))) a.2]), (30, .arr 3 (.int .i64) (List.replicate c.1.toNat (0 : Int)))] ?_
    refine AW.have1 (fun b1 : (List Int) => linealref05_IsProof_k1 c a r0 b1 = some r) (fun b1 => ⟨fr [(2, .sl (.pair (.int .i64) (.int .i64)) r0), (3, .bp 3 0), (4, .bp 4 0), (8, .own 30)], hpGet [(3, .box 24 [.int .i64 c.1, .sl (.pair (.int .i64) (.pair (.int .i64) (.int .i64))) c.2]), (4, .box 24 [.int .i64 a.1, .sl (.pair (.int .i64) (.pair (.int .i64) (.int .i64))) a.2]), (30, .arr 3 (.int .i64) b1)], gt⟩) (fun b1 h => ?_) (fun hk_linealref05_IsProof_k1 => ?_)
    ·as_aux_lemma =>
      unfold linealref05_IsProof_k1 at h
      refine AW.have1 (fun _ : Unit => linealref05_IsProof_k2 = some r) (fun _ => ⟨fr [], hpGet [], gt⟩) (fun _ h => ?_) (fun hk_linealref05_IsProof_k2 => ?_)
      ·as_aux_lemma =>
        unfold linealref05_IsProof_k2 at h
        refine zo ?_
        refine zB [(6, .bool true), (7, .int .i64 0)] [] ?_
        refine AW.ret ?_
        obtain rfl := Option.some.inj h
        exact zR [] [] []
      ·refine AW.seq ?_
       refine zo ?_
       refine zB [(3, .bp 3 0), (4, .bp 4 0), (8, .own 30), (48, .sl (.pair (.int .i64) (.int .i64)) r0), (49, .int .i64 (r0.length : Int)), (50, .int .i64 0)] [(3, .box 24 [.int .i64 c.1, .sl (.pair (.int .i64) (.pair (.int .i64) (.int .i64))) c.2]), (4, .box 24 [.int .i64 a.1, .sl (.pair (.int .i64) (.pair (.int .i64) (.int .i64))) a.2]), (30, .arr 3 (.int .i64) b1)] ?_
       refine AW.block ?_
       obtain ⟨rv14, hw10, ho11⟩ := Option.bind_eq_some_iff.1 h
       refine AW.loopO (linealref05_IsProof_b2 c a r0 b1) (fun st2 => ⟨fr [(3, .bp 3 0), (4, .bp 4 0), (8, .own 30), (48, .sl (.pair (.int .i64) (.int .i64)) r0), (49, .int .i64 (r0.length : Int)), (50, .int .i64 st2)], hpGet [(3, .box 24 [.int .i64 c.1, .sl (.pair (.int .i64) (.pair (.int .i64) (.int .i64))) c.2]), (4, .box 24 [.int .i64 a.1, .sl (.pair (.int .i64) (.pair (.int .i64) (.int .i64))) a.2]), (30, .arr 3 (.int .i64) b1)], gt⟩) 0 hw10 (zL [] [] []) ?_
       as_aux_lemma =>
        intro st2 x13 h hd12
        unfold linealref05_IsProof_b2 at h
        refine zo ?_
        refine zB [(3, .bp 3 0), (4, .bp 4 0), (8, .own 30), (48, .sl (.pair (.int .i64) (.int .i64)) r0), (49, .int .i64 (r0.length : Int)), (50, .int .i64 st2), (51, .bool (decide (st2 < (r0.length : Int))))] [(3, .box 24 [.int .i64 c.1, .sl (.pair (.int .i64) (.pair (.int .i64) (.int .i64))) c.2]), (4, .box 24 [.int .i64 a.1, .sl (.pair (.int .i64) (.pair (.int .i64) (.int .i64))) a.2]), (30, .arr 3 (.int .i64) b1)] ?_
        refine AW.seq ?_
        refine zQ h (fun hb15 h => ?_) (fun hb15 h => ?_)
        ·refine zk ?_
         refine AW.seq ?_
         refine AW.block ?_
         refine zo ?_
         obtain ⟨c16, h⟩ := ck_some.1 h
         obtain ⟨c17, h⟩ := ck_some.1 h
         refine zB [(3, .bp 3 0), (4, .bp 4 0), (8, .own 30), (12, .bp 12 0), (48, .sl (.pair (.int .i64) (.int .i64)) r0), (49, .int .i64 (r0.length : Int)), (50, .int .i64 st2)] [(3, .box 24 [.int .i64 c.1, .sl (.pair (.int .i64) (.pair (.int .i64) (.int .i64))) c.2]), (4, .box 24 [.int .i64 a.1, .sl (.pair (.int .i64) (.pair (.int .i64) (.int .i64))) a.2]), (12, .box 58 [.int .i64 (r0.getD st2.toNat (0, 0)).1, .int .i64 (r0.getD st2.toNat (0, 0)).2]), (30, .arr 3 (.int .i64) b1)] ?_
         refine zo ?_
         refine zS 5 [(3, .bp 3 0), (4, .bp 4 0), (8, .own 30), (12, .bp 12 0), (48, .sl (.pair (.int .i64) (.int .i64)) r0), (49, .int .i64 (r0.length : Int)), (50, .int .i64 st2), (54, .agg [.int .i64 c.1, .sl (.pair (.int .i64) (.pair (.int .i64) (.int .i64))) c.2]), (55, .agg [.int .i64 a.1, .sl (.pair (.int .i64) (.pair (.int .i64) (.int .i64))) a.2]), (56, .own 30), (58, .int .i64 (r0.getD st2.toNat (0, 0)).1)] [(3, .box 24 [.int .i64 c.1, .sl (.pair (.int .i64) (.pair (.int .i64) (.int .i64))) c.2]), (4, .box 24 [.int .i64 a.1, .sl (.pair (.int .i64) (.pair (.int .i64) (.int .i64))) a.2]), (12, .box 58 [.int .i64 (r0.getD st2.toNat (0, 0)).1, .int .i64 (r0.getD st2.toNat (0, 0)).2]), (30, .arr 3 (.int .i64) b1)] ?_
         refine zS 2 [(3, .bp 3 0), (4, .bp 4 0), (8, .own 30), (48, .sl (.pair (.int .i64) (.int .i64)) r0), (49, .int .i64 (r0.length : Int)), (50, .int .i64 st2), (54, .agg [.int .i64 c.1, .sl (.pair (.int .i64) (.pair (.int .i64) (.int .i64))) c.2]), (55, .agg [.int .i64 a.1, .sl (.pair (.int .i64) (.pair (.int .i64) (.int .i64))) a.2]), (56, .own 30), (58, .int .i64 (r0.getD st2.toNat (0, 0)).1), (60, .int .i64 (r0.getD st2.toNat (0, 0)).2)] [(3, .box 24 [.int .i64 c.1, .sl (.pair (.int .i64) (.pair (.int .i64) (.int .i64))) c.2]), (4, .box 24 [.int .i64 a.1, .sl (.pair (.int .i64) (.pair (.int .i64) (.int .i64))) a.2]), (30, .arr 3 (.int .i64) b1)] ?_
         obtain ⟨v0_4, hv18, h⟩ := Option.bind_eq_some_iff.1 h
         refine zC [30] [] (hc_linealref05_holds c a b1 (r0.getD st2.toNat (0, 0)).1 (r0.getD st2.toNat (0, 0)).2 hv18) [(3, .bp 3 0), (4, .bp 4 0), (8, .own 30), (48, .sl (.pair (.int .i64) (.int .i64)) r0), (49, .int .i64 (r0.length : Int)), (50, .int .i64 st2), (61, .bool v0_4)] [(3, .box 24 [.int .i64 c.1, .sl (.pair (.int .i64) (.pair (.int .i64) (.int .i64))) c.2]), (4, .box 24 [.int .i64 a.1, .sl (.pair (.int .i64) (.pair (.int .i64) (.int .i64))) a.2]), (30, .arr 3 (.int .i64) b1)] ?_
         refine zB [(3, .bp 3 0), (4, .bp 4 0), (8, .own 30), (48, .sl (.pair (.int .i64) (.int .i64)) r0), (49, .int .i64 (r0.length : Int)), (50, .int .i64 st2), (62, .bool (!v0_4))] [(3, .box 24 [.int .i64 c.1, .sl (.pair (.int .i64) (.pair (.int .i64) (.int .i64))) c.2]), (4, .box 24 [.int .i64 a.1, .sl (.pair (.int .i64) (.pair (.int .i64) (.int .i64))) a.2]), (30, .arr 3 (.int .i64) b1)] ?_
         refine zQ h (fun hb19 h => ?_) (fun hb19 h => ?_)
         ·refine zo ?_
          refine zB [(6, .bool false), (7, .int .i64 0)] [] ?_
          refine AW.ret ?_
          refine ablock_r ?_
          refine athen_r ?_
          obtain rfl := Option.some.inj h
          rw [← hd12 _ rfl] at ho11
          have h := ho11
          try simp only at h
          refine athen_r ?_
          refine ablock_r ?_
          refine athen_r ?_
          obtain rfl := Option.some.inj h
          exact zR [] [] []
         ·refine zm ?_
          refine athen_n ?_
          refine AW.ops ?_
          obtain ⟨c20, h⟩ := ck_some.1 h
          refine zA [(3, .bp 3 0), (4, .bp 4 0), (8, .own 30), (48, .sl (.pair (.int .i64) (.int .i64)) r0), (49, .int .i64 (r0.length : Int)), (50, .int .i64 (st2 + 1))] [(3, .box 24 [.int .i64 c.1, .sl (.pair (.int .i64) (.pair (.int .i64) (.int .i64))) c.2]), (4, .box 24 [.int .i64 a.1, .sl (.pair (.int .i64) (.pair (.int .i64) (.int .i64))) a.2]), (30, .arr 3 (.int .i64) b1)] ?_
          obtain rfl := Option.some.inj h
          exact ⟨_, rfl, zL [] [] []⟩
        ·refine AW.exit ?_
         refine athen_e ?_
         obtain rfl := Option.some.inj h
         rw [← hd12 _ rfl] at ho11
         have h := ho11
         try simp only at h
         refine athen_e ?_
         refine ablock_s ?_
         refine athen_n ?_
         exact AW.weaken (zL [] [] []) (hk_linealref05_IsProof_k2 () h)
    ·refine AW.seq ?_
     refine zo ?_
     refine zB [(2, .sl (.pair (.int .i64) (.int .i64)) r0), (3, .bp 3 0), (4, .bp 4 0), (8, .own 30), (31, .sl (.pair (.int .i64) (.int .i64)) r0), (32, .int .i64 (r0.length : Int)), (33, .int .i64 0)] [(3, .box 24 [.int .i64 c.1, .sl (.pair (.int .i64) (.pair (.int .i64) (.int .i64))) c.2]), (4, .box 24 [.int .i64 a.1, .sl (.pair (.int .i64) (.pair (.int .i64) (.int .i64))) a.2]), (30, .arr 3 (.int .i64) (List.replicate c.1.toNat (0 : Int)))] ?_
     refine AW.block ?_
     obtain ⟨rv25, hw21, ho22⟩ := Option.bind_eq_some_iff.1 h
     refine AW.loopO (linealref05_IsProof_b1 r0) (fun st1 => ⟨fr [(2, .sl (.pair (.int .i64) (.int .i64)) r0), (3, .bp 3 0), (4, .bp 4 0), (8, .own 30), (31, .sl (.pair (.int .i64) (.int .i64)) r0), (32, .int .i64 (r0.length : Int)), (33, .int .i64 st1.2)], hpGet [(3, .box 24 [.int .i64 c.1, .sl (.pair (.int .i64) (.pair (.int .i64) (.int .i64))) c.2]), (4, .box 24 [.int .i64 a.1, .sl (.pair (.int .i64) (.pair (.int .i64) (.int .i64))) a.2]), (30, .arr 3 (.int .i64) st1.1)], gt⟩) ((List.replicate c.1.toNat (0 : Int)), 0) hw21 (zL [] [] []) ?_
     as_aux_lemma =>
      intro st1 x24 h hd23
      unfold linealref05_IsProof_b1 at h
      refine zo ?_
      refine zB [(2, .sl (.pair (.int .i64) (.int .i64)) r0), (3, .bp 3 0), (4, .bp 4 0), (8, .own 30), (31, .sl (.pair (.int .i64) (.int .i64)) r0), (32, .int .i64 (r0.length : Int)), (33, .int .i64 st1.2), (34, .bool (decide (st1.2 < (r0.length : Int))))] [(3, .box 24 [.int .i64 c.1, .sl (.pair (.int .i64) (.pair (.int .i64) (.int .i64))) c.2]), (4, .box 24 [.int .i64 a.1, .sl (.pair (.int .i64) (.pair (.int .i64) (.int .i64))) a.2]), (30, .arr 3 (.int .i64) st1.1)] ?_
      refine AW.seq ?_
      refine zQ h (fun hb26 h => ?_) (fun hb26 h => ?_)
      ·refine zk ?_
       refine AW.seq ?_
       refine AW.block ?_
       refine zo ?_
       obtain ⟨c27, h⟩ := ck_some.1 h
       obtain ⟨c28, h⟩ := ck_some.1 h
       refine zB [(2, .sl (.pair (.int .i64) (.int .i64)) r0), (3, .bp 3 0), (4, .bp 4 0), (8, .own 30), (10, .bp 10 0), (31, .sl (.pair (.int .i64) (.int .i64)) r0), (32, .int .i64 (r0.length : Int)), (33, .int .i64 st1.2)] [(3, .box 24 [.int .i64 c.1, .sl (.pair (.int .i64) (.pair (.int .i64) (.int .i64))) c.2]), (4, .box 24 [.int .i64 a.1, .sl (.pair (.int .i64) (.pair (.int .i64) (.int .i64))) a.2]), (10, .box 58 [.int .i64 (r0.getD st1.2.toNat (0, 0)).1, .int .i64 (r0.getD st1.2.toNat (0, 0)).2]), (30, .arr 3 (.int .i64) st1.1)] ?_
       refine AW.draw tab_ok mixed_ok [(10, [30])] [] (by decide) (lex_fast (by kernel_rfl)) ?_
       as_aux_lemma =>
        obtain ⟨c30, h⟩ := ck_some.1 h
        obtain ⟨c31, h⟩ := ck_some.1 h
        refine adops_cut 6 (fun K' hK29 => ?_)
        try dsimp only [List.drop_succ_cons, List.drop_zero, List.take_succ_cons, List.take_zero]
        simp only [go_sem, hb2, hb5, hb7, hb26]
        repeat with_reducible refine zN ?_
        refine hK29 _ ?_
        as_aux_lemma =>
         obtain ⟨c33, h⟩ := ck_some.1 h
         obtain ⟨c34, h⟩ := ck_some.1 h
         obtain ⟨c35, h⟩ := ck_some.1 h
         refine adops_cut 5 (fun K' hK32 => ?_)
         try dsimp only [List.drop_succ_cons, List.drop_zero, List.take_succ_cons, List.take_zero]
         simp only [go_sem, hb2, hb5, hb7, hb26]
         repeat with_reducible refine zN ?_
         refine hK32 _ ?_
         refine adops_nil ?_
         refine ablock_n ?_
         refine athen_n ?_
         refine zV [(2, .sl (.pair (.int .i64) (.int .i64)) r0), (3, .bp 3 0), (4, .bp 4 0), (8, .own 30), (31, .sl (.pair (.int .i64) (.int .i64)) r0), (32, .int .i64 (r0.length : Int)), (33, .int .i64 st1.2)] [(3, .box 24 [.int .i64 c.1, .sl (.pair (.int .i64) (.pair (.int .i64) (.int .i64))) c.2]), (4, .box 24 [.int .i64 a.1, .sl (.pair (.int .i64) (.pair (.int .i64) (.int .i64))) a.2]), (30, .arr 3 (.int .i64) (st1.1.set (r0.getD st1.2.toNat (0, 0)).1.toNat (ior .i64 (st1.1.getD (r0.getD st1.2.toNat (0, 0)).1.toNat 0) (ishl .i64 1 (r0.getD st1.2.toNat (0, 0)).2))))] gt ?_
         as_aux_lemma =>
          refine AW.ops ?_
          obtain ⟨c36, h⟩ := ck_some.1 h
          refine zA [(2, .sl (.pair (.int .i64) (.int .i64)) r0), (3, .bp 3 0), (4, .bp 4 0), (8, .own 30), (31, .sl (.pair (.int .i64) (.int .i64)) r0), (32, .int .i64 (r0.length : Int)), (33, .int .i64 (st1.2 + 1))] [(3, .box 24 [.int .i64 c.1, .sl (.pair (.int .i64) (.pair (.int .i64) (.int .i64))) c.2]), (4, .box 24 [.int .i64 a.1, .sl (.pair (.int .i64) (.pair (.int .i64) (.int .i64))) a.2]), (30, .arr 3 (.int .i64) (st1.1.set (r0.getD st1.2.toNat (0, 0)).1.toNat (ior .i64 (st1.1.getD (r0.getD st1.2.toNat (0, 0)).1.toNat 0) (ishl .i64 1 (r0.getD st1.2.toNat (0, 0)).2))))] ?_
          obtain rfl := Option.some.inj h
          exact ⟨_, rfl, zL [] [] []⟩
      ·refine AW.exit ?_
       refine athen_e ?_
       obtain rfl := Option.some.inj h
       rw [← hd23 _ rfl] at ho22
       have h := ho22
       refine athen_e ?_
       refine ablock_s ?_
       refine athen_n ?_
       exact AW.weaken (zL [] [] []) (hk_linealref05_IsProof_k1 _ h)

theorem hc_linealref05_Refines (c : Int × (List (Int × Int × Int))) (a : Int × (List (Int × Int × Int))) {r : Bool × Int} (h : linealref05_Refines c a = some r) : HC Try.prog 40 [] [.agg [.int .i64 c.1, .sl (.pair (.int .i64) (.pair (.int .i64) (.int .i64))) c.2], .agg [.int .i64 a.1, .sl (.pair (.int .i64) (.pair (.int .i64) (.int .i64))) a.2]] [] (.tup [.bool r.1, .int .i64 r.2]) := by
 unfold linealref05_Refines at h
 refine zH Try.func40 [.tmp 4, .tmp 5] 21 ?_
 refine zo ?_
 refine zB [(2, .bp 2 0), (3, .bp 3 0)] [(2, .box 24 [.int .i64 c.1, .sl (.pair (.int .i64) (.pair (.int .i64) (.int .i64))) c.2]), (3, .box 24 [.int .i64 a.1, .sl (.pair (.int .i64) (.pair (.int .i64) (.int .i64))) a.2])] ?_
 refine AW.seq ?_
 refine zo ?_
 refine zS 1 [(2, .bp 2 0), (3, .bp 3 0), (6, .agg [.int .i64 c.1, .sl (.pair (.int .i64) (.pair (.int .i64) (.int .i64))) c.2])] [(2, .box 24 [.int .i64 c.1, .sl (.pair (.int .i64) (.pair (.int .i64) (.int .i64))) c.2]), (3, .box 24 [.int .i64 a.1, .sl (.pair (.int .i64) (.pair (.int .i64) (.int .i64))) a.2])] ?_
 obtain ⟨v0, hv1, h⟩ := Option.bind_eq_some_iff.1 h
 refine zC [] [] (hc_linealref05_Valid c hv1) [(2, .bp 2 0), (3, .bp 3 0), (7, .bool v0)] [(2, .box 24 [.int .i64 c.1, .sl (.pair (.int .i64) (.pair (.int .i64) (.int .i64))) c.2]), (3, .box 24 [.int .i64 a.1, .sl (.pair (.int .i64) (.pair (.int .i64) (.int .i64))) a.2])] ?_
 refine zS 2 [(2, .bp 2 0), (3, .bp 3 0), (9, .bool (!v0))] [(2, .box 24 [.int .i64 c.1, .sl (.pair (.int .i64) (.pair (.int .i64) (.int .i64))) c.2]), (3, .box 24 [.int .i64 a.1, .sl (.pair (.int .i64) (.pair (.int .i64) (.int .i64))) a.2])] ?_
 rcases zI h with ⟨hb2, h⟩ | ⟨hb2, h⟩
 ·refine zB [(2, .bp 2 0), (3, .bp 3 0), (13, .bool true)] [(2, .box 24 [.int .i64 c.1, .sl (.pair (.int .i64) (.pair (.int .i64) (.int .i64))) c.2]), (3, .box 24 [.int .i64 a.1, .sl (.pair (.int .i64) (.pair (.int .i64) (.int .i64))) a.2])] ?_
  refine AW.cond (b := true) rfl (fun _ => ?_) (fun hb3 => by cases hb3)
  refine zo ?_
  refine zB [(4, .bool false), (5, .int .i64 50)] [] ?_
  refine zr ?_
  obtain rfl := Option.some.inj h
  exact zR [] [] []
 ·refine zS 1 [(2, .bp 2 0), (3, .bp 3 0), (9, .bool false), (10, .agg [.int .i64 a.1, .sl (.pair (.int .i64) (.pair (.int .i64) (.int .i64))) a.2])] [(2, .box 24 [.int .i64 c.1, .sl (.pair (.int .i64) (.pair (.int .i64) (.int .i64))) c.2]), (3, .box 24 [.int .i64 a.1, .sl (.pair (.int .i64) (.pair (.int .i64) (.int .i64))) a.2])] ?_
  obtain ⟨v0_2, hv4, h⟩ := Option.bind_eq_some_iff.1 h
  refine zG [] [] (hc_linealref05_Valid a hv4) [(2, .bp 2 0), (3, .bp 3 0), (9, .bool false), (11, .bool v0_2)] [(2, .box 24 [.int .i64 c.1, .sl (.pair (.int .i64) (.pair (.int .i64) (.int .i64))) c.2]), (3, .box 24 [.int .i64 a.1, .sl (.pair (.int .i64) (.pair (.int .i64) (.int .i64))) a.2])] ?_
  refine zB [(2, .bp 2 0), (3, .bp 3 0), (13, .bool (!v0_2))] [(2, .box 24 [.int .i64 c.1, .sl (.pair (.int .i64) (.pair (.int .i64) (.int .i64))) c.2]), (3, .box 24 [.int .i64 a.1, .sl (.pair (.int .i64) (.pair (.int .i64) (.int .i64))) a.2])] ?_
  refine zQ h (fun hb5 h => ?_) (fun hb5 h => ?_)
  ·refine zo ?_
   refine zB [(4, .bool false), (5, .int .i64 50)] [] ?_
   refine zr ?_
   obtain rfl := Option.some.inj h
   exact zR [] [] []
  ·refine zk ?_
   refine zo ?_
   refine zS 2 [(14, .agg [.int .i64 c.1, .sl (.pair (.int .i64) (.pair (.int .i64) (.int .i64))) c.2]), (15, .agg [.int .i64 a.1, .sl (.pair (.int .i64) (.pair (.int .i64) (.int .i64))) a.2])] [] ?_
   obtain ⟨v0_3, hv6, h⟩ := Option.bind_eq_some_iff.1 h
   refine zC [] [] (hc_linealref05_best c a hv6) [(16, .own 26000)] [(26000, .arr 3 (.int .i64) v0_3)] ?_
   obtain ⟨c7, h⟩ := ck_some.1 h
   refine zS 5 [(4, .bool (decide ((iand .i64 (v0_3.getD 0 0) 1) = 1)))] [] ?_
   refine zB [(4, .bool (decide ((iand .i64 (v0_3.getD 0 0) 1) = 1))), (5, .int .i64 0)] [] ?_
   refine AW.ret ?_
   obtain rfl := Option.some.inj h
   exact zR [] [] []

theorem hc_lineallaw05_RefineProofs (c : Int × (List (Int × Int × Int))) (a : Int × (List (Int × Int × Int))) (r0 : List (Int × Int)) {r : Bool} (h : lineallaw05_RefineProofs c a r0 = some r) : HC Try.prog 5 [] [.agg [.int .i64 c.1, .sl (.pair (.int .i64) (.pair (.int .i64) (.int .i64))) c.2], .agg [.int .i64 a.1, .sl (.pair (.int .i64) (.pair (.int .i64) (.int .i64))) a.2], .sl (.pair (.int .i64) (.int .i64)) r0] [] (.bool r) := by
 unfold lineallaw05_RefineProofs at h
 refine zH Try.func5 [.tmp 6] 118 ?_
 refine zo ?_
 refine zB [(2, .sl (.pair (.int .i64) (.int .i64)) r0), (3, .bp 3 0), (4, .bp 4 0)] [(3, .box 24 [.int .i64 c.1, .sl (.pair (.int .i64) (.pair (.int .i64) (.int .i64))) c.2]), (4, .box 24 [.int .i64 a.1, .sl (.pair (.int .i64) (.pair (.int .i64) (.int .i64))) a.2])] ?_
 refine AW.seq ?_
 refine zo ?_
 refine zS 1 [(2, .sl (.pair (.int .i64) (.int .i64)) r0), (3, .bp 3 0), (4, .bp 4 0), (17, .agg [.int .i64 c.1, .sl (.pair (.int .i64) (.pair (.int .i64) (.int .i64))) c.2])] [(3, .box 24 [.int .i64 c.1, .sl (.pair (.int .i64) (.pair (.int .i64) (.int .i64))) c.2]), (4, .box 24 [.int .i64 a.1, .sl (.pair (.int .i64) (.pair (.int .i64) (.int .i64))) a.2])] ?_
 obtain ⟨v0, hv1, h⟩ := Option.bind_eq_some_iff.1 h
 refine zC [] [] (hc_lineallaw05_Long c hv1) [(2, .sl (.pair (.int .i64) (.int .i64)) r0), (3, .bp 3 0), (4, .bp 4 0), (18, .bool (decide (100 < (c.2.length : Int))))] [(3, .box 24 [.int .i64 c.1, .sl (.pair (.int .i64) (.pair (.int .i64) (.int .i64))) c.2]), (4, .box 24 [.int .i64 a.1, .sl (.pair (.int .i64) (.pair (.int .i64) (.int .i64))) a.2])] ?_
 refine zS 1 [(2, .sl (.pair (.int .i64) (.int .i64)) r0), (3, .bp 3 0), (4, .bp 4 0), (19, .bool (decide (100 < (c.2.length : Int))))] [(3, .box 24 [.int .i64 c.1, .sl (.pair (.int .i64) (.pair (.int .i64) (.int .i64))) c.2]), (4, .box 24 [.int .i64 a.1, .sl (.pair (.int .i64) (.pair (.int .i64) (.int .i64))) a.2])] ?_
 rcases zI h with ⟨hb2, h⟩ | ⟨hb2, h⟩
 ·refine zS 5 [(2, .sl (.pair (.int .i64) (.int .i64)) r0), (3, .bp 3 0), (4, .bp 4 0), (23, .bool true), (24, .cv (undef))] [(3, .box 24 [.int .i64 c.1, .sl (.pair (.int .i64) (.pair (.int .i64) (.int .i64))) c.2]), (4, .box 24 [.int .i64 a.1, .sl (.pair (.int .i64) (.pair (.int .i64) (.int .i64))) a.2])] ?_
  refine zB [(2, .sl (.pair (.int .i64) (.int .i64)) r0), (3, .bp 3 0), (4, .bp 4 0), (27, .bool true)] [(3, .box 24 [.int .i64 c.1, .sl (.pair (.int .i64) (.pair (.int .i64) (.int .i64))) c.2]), (4, .box 24 [.int .i64 a.1, .sl (.pair (.int .i64) (.pair (.int .i64) (.int .i64))) a.2])] ?_
  refine AW.cond (b := true) rfl (fun _ => ?_) (fun hb3 => by cases hb3)
  refine zo ?_
  obtain ⟨v0_2, hv4, h⟩ := Option.bind_eq_some_iff.1 h
  refine zC [] [] (hc_lineallaw05_Awake hv4) [(28, .bool v0_2)] [] ?_
  refine zB [(6, .bool v0_2)] [] ?_
  refine zr ?_
  obtain rfl := Option.some.inj h
  exact zR [] [] []
 ·refine zS 1 [(2, .sl (.pair (.int .i64) (.int .i64)) r0), (3, .bp 3 0), (4, .bp 4 0), (19, .bool false), (20, .agg [.int .i64 a.1, .sl (.pair (.int .i64) (.pair (.int .i64) (.int .i64))) a.2])] [(3, .box 24 [.int .i64 c.1, .sl (.pair (.int .i64) (.pair (.int .i64) (.int .i64))) c.2]), (4, .box 24 [.int .i64 a.1, .sl (.pair (.int .i64) (.pair (.int .i64) (.int .i64))) a.2])] ?_
  obtain ⟨v0_3, hv5, h⟩ := Option.bind_eq_some_iff.1 h
  refine zG [] [] (hc_lineallaw05_Long a hv5) [(2, .sl (.pair (.int .i64) (.int .i64)) r0), (3, .bp 3 0), (4, .bp 4 0), (19, .bool false), (21, .bool (decide (100 < (a.2.length : Int))))] [(3, .box 24 [.int .i64 c.1, .sl (.pair (.int .i64) (.pair (.int .i64) (.int .i64))) c.2]), (4, .box 24 [.int .i64 a.1, .sl (.pair (.int .i64) (.pair (.int .i64) (.int .i64))) a.2])] ?_
  refine zS 2 [(2, .sl (.pair (.int .i64) (.int .i64)) r0), (3, .bp 3 0), (4, .bp 4 0), (23, .bool (decide (100 < (a.2.length : Int))))] [(3, .box 24 [.int .i64 c.1, .sl (.pair (.int .i64) (.pair (.int .i64) (.int .i64))) c.2]), (4, .box 24 [.int .i64 a.1, .sl (.pair (.int .i64) (.pair (.int .i64) (.int .i64))) a.2])] ?_
  rcases zI h with ⟨hb6, h⟩ | ⟨hb6, h⟩
  ·refine zB [(2, .sl (.pair (.int .i64) (.int .i64)) r0), (3, .bp 3 0), (4, .bp 4 0), (27, .bool true)] [(3, .box 24 [.int .i64 c.1, .sl (.pair (.int .i64) (.pair (.int .i64) (.int .i64))) c.2]), (4, .box 24 [.int .i64 a.1, .sl (.pair (.int .i64) (.pair (.int .i64) (.int .i64))) a.2])] ?_
   refine AW.cond (b := true) rfl (fun _ => ?_) (fun hb7 => by cases hb7)
   refine zo ?_
   obtain ⟨v0_4, hv8, h⟩ := Option.bind_eq_some_iff.1 h
   refine zC [] [] (hc_lineallaw05_Awake hv8) [(28, .bool v0_4)] [] ?_
   refine zB [(6, .bool v0_4)] [] ?_
   refine zr ?_
   obtain rfl := Option.some.inj h
   exact zR [] [] []
  ·refine zB [(2, .sl (.pair (.int .i64) (.int .i64)) r0), (3, .bp 3 0), (4, .bp 4 0), (27, .bool (decide (100 < (r0.length : Int))))] [(3, .box 24 [.int .i64 c.1, .sl (.pair (.int .i64) (.pair (.int .i64) (.int .i64))) c.2]), (4, .box 24 [.int .i64 a.1, .sl (.pair (.int .i64) (.pair (.int .i64) (.int .i64))) a.2])] ?_
   refine zQ h (fun hb9 h => ?_) (fun hb9 h => ?_)
   ·refine zo ?_
    obtain ⟨v0_5, hv10, h⟩ := Option.bind_eq_some_iff.1 h
    refine zC [] [] (hc_lineallaw05_Awake hv10) [(28, .bool v0_5)] [] ?_
    refine zB [(6, .bool v0_5)] [] ?_
    refine zr ?_
    obtain rfl := Option.some.inj h
    exact zR [] [] []
   ·refine zk ?_
    refine zo ?_
    refine zS 2 [(2, .sl (.pair (.int .i64) (.int .i64)) r0), (3, .bp 3 0), (4, .bp 4 0), (30, .agg [.int .i64 c.1, .sl (.pair (.int .i64) (.pair (.int .i64) (.int .i64))) c.2]), (31, .agg [.int .i64 a.1, .sl (.pair (.int .i64) (.pair (.int .i64) (.int .i64))) a.2])] [(3, .box 24 [.int .i64 c.1, .sl (.pair (.int .i64) (.pair (.int .i64) (.int .i64))) c.2]), (4, .box 24 [.int .i64 a.1, .sl (.pair (.int .i64) (.pair (.int .i64) (.int .i64))) a.2])] ?_
    obtain ⟨v0_6, hv11, h⟩ := Option.bind_eq_some_iff.1 h
    refine zC [] [] (hc_refine_Best c a hv11) [(2, .sl (.pair (.int .i64) (.int .i64)) r0), (3, .bp 3 0), (4, .bp 4 0), (32, .tup [.own 42000, .int .i64 v0_6.2])] [(3, .box 24 [.int .i64 c.1, .sl (.pair (.int .i64) (.pair (.int .i64) (.int .i64))) c.2]), (4, .box 24 [.int .i64 a.1, .sl (.pair (.int .i64) (.pair (.int .i64) (.int .i64))) a.2]), (42000, .arr 58 (.pair (.int .i64) (.int .i64)) v0_6.1)] ?_
    refine zB [(2, .sl (.pair (.int .i64) (.int .i64)) r0), (3, .bp 3 0), (4, .bp 4 0), (7, .own 42000), (8, .int .i64 v0_6.2)] [(3, .box 24 [.int .i64 c.1, .sl (.pair (.int .i64) (.pair (.int .i64) (.int .i64))) c.2]), (4, .box 24 [.int .i64 a.1, .sl (.pair (.int .i64) (.pair (.int .i64) (.int .i64))) a.2]), (42000, .arr 58 (.pair (.int .i64) (.int .i64)) v0_6.1)] ?_
    refine zo ?_
    refine zS 2 [(2, .sl (.pair (.int .i64) (.int .i64)) r0), (3, .bp 3 0), (4, .bp 4 0), (7, .own 42000), (8, .int .i64 v0_6.2), (36, .agg [.int .i64 c.1, .sl (.pair (.int .i64) (.pair (.int .i64) (.int .i64))) c.2]), (37, .agg [.int .i64 a.1, .sl (.pair (.int .i64) (.pair (.int .i64) (.int .i64))) a.2])] [(3, .box 24 [.int .i64 c.1, .sl (.pair (.int .i64) (.pair (.int .i64) (.int .i64))) c.2]), (4, .box 24 [.int .i64 a.1, .sl (.pair (.int .i64) (.pair (.int .i64) (.int .i64))) a.2]), (42000, .arr 58 (.pair (.int .i64) (.int .i64)) v0_6.1)] ?_
    obtain ⟨v0_7, hv12, h⟩ := Option.bind_eq_some_iff.1 h
    refine zC [] [] (hc_linealref05_Best c a hv12) [(2, .sl (.pair (.int .i64) (.int .i64)) r0), (3, .bp 3 0), (4, .bp 4 0), (7, .own 42000), (8, .int .i64 v0_6.2), (38, .tup [.own 48000, .int .i64 v0_7.2])] [(3, .box 24 [.int .i64 c.1, .sl (.pair (.int .i64) (.pair (.int .i64) (.int .i64))) c.2]), (4, .box 24 [.int .i64 a.1, .sl (.pair (.int .i64) (.pair (.int .i64) (.int .i64))) a.2]), (42000, .arr 58 (.pair (.int .i64) (.int .i64)) v0_6.1), (48000, .arr 58 (.pair (.int .i64) (.int .i64)) v0_7.1)] ?_
    refine zB [(2, .sl (.pair (.int .i64) (.int .i64)) r0), (3, .bp 3 0), (4, .bp 4 0), (7, .own 42000), (8, .int .i64 v0_6.2), (9, .own 48000), (10, .int .i64 v0_7.2)] [(3, .box 24 [.int .i64 c.1, .sl (.pair (.int .i64) (.pair (.int .i64) (.int .i64))) c.2]), (4, .box 24 [.int .i64 a.1, .sl (.pair (.int .i64) (.pair (.int .i64) (.int .i64))) a.2]), (42000, .arr 58 (.pair (.int .i64) (.int .i64)) v0_6.1), (48000, .arr 58 (.pair (.int .i64) (.int .i64)) v0_7.1)] ?_
    refine AW.seq ?_
    refine zo ?_
    refine zS 2 [(2, .sl (.pair (.int .i64) (.int .i64)) r0), (3, .bp 3 0), (4, .bp 4 0), (8, .int .i64 v0_6.2), (10, .int .i64 v0_7.2), (41, .own 42000), (42, .own 48000)] [(3, .box 24 [.int .i64 c.1, .sl (.pair (.int .i64) (.pair (.int .i64) (.int .i64))) c.2]), (4, .box 24 [.int .i64 a.1, .sl (.pair (.int .i64) (.pair (.int .i64) (.int .i64))) a.2]), (42000, .arr 58 (.pair (.int .i64) (.int .i64)) v0_6.1), (48000, .arr 58 (.pair (.int .i64) (.int .i64)) v0_7.1)] ?_
    obtain ⟨v0_8, hv13, h⟩ := Option.bind_eq_some_iff.1 h
    refine zC [42000, 48000] [] (hc_linealref05_SamePairs v0_6.1 v0_7.1 hv13) [(2, .sl (.pair (.int .i64) (.int .i64)) r0), (3, .bp 3 0), (4, .bp 4 0), (8, .int .i64 v0_6.2), (10, .int .i64 v0_7.2), (43, .bool v0_8)] [(3, .box 24 [.int .i64 c.1, .sl (.pair (.int .i64) (.pair (.int .i64) (.int .i64))) c.2]), (4, .box 24 [.int .i64 a.1, .sl (.pair (.int .i64) (.pair (.int .i64) (.int .i64))) a.2])] ?_
    refine zS 2 [(2, .sl (.pair (.int .i64) (.int .i64)) r0), (3, .bp 3 0), (4, .bp 4 0), (8, .int .i64 v0_6.2), (10, .int .i64 v0_7.2), (45, .bool (!v0_8))] [(3, .box 24 [.int .i64 c.1, .sl (.pair (.int .i64) (.pair (.int .i64) (.int .i64))) c.2]), (4, .box 24 [.int .i64 a.1, .sl (.pair (.int .i64) (.pair (.int .i64) (.int .i64))) a.2])] ?_
    rcases zI h with ⟨hb14, h⟩ | ⟨hb14, h⟩
    ·refine zB [(2, .sl (.pair (.int .i64) (.int .i64)) r0), (3, .bp 3 0), (4, .bp 4 0), (49, .bool true)] [(3, .box 24 [.int .i64 c.1, .sl (.pair (.int .i64) (.pair (.int .i64) (.int .i64))) c.2]), (4, .box 24 [.int .i64 a.1, .sl (.pair (.int .i64) (.pair (.int .i64) (.int .i64))) a.2])] ?_
     refine AW.cond (b := true) rfl (fun _ => ?_) (fun hb15 => by cases hb15)
     refine zo ?_
     refine zB [(6, .bool false)] [] ?_
     refine zr ?_
     obtain rfl := Option.some.inj h
     exact zR [] [] []
    ·refine zB [(2, .sl (.pair (.int .i64) (.int .i64)) r0), (3, .bp 3 0), (4, .bp 4 0), (49, .bool (!(decide (v0_6.2 = v0_7.2))))] [(3, .box 24 [.int .i64 c.1, .sl (.pair (.int .i64) (.pair (.int .i64) (.int .i64))) c.2]), (4, .box 24 [.int .i64 a.1, .sl (.pair (.int .i64) (.pair (.int .i64) (.int .i64))) a.2])] ?_
     refine zQ h (fun hb16 h => ?_) (fun hb16 h => ?_)
     ·refine zo ?_
      refine zB [(6, .bool false)] [] ?_
      refine zr ?_
      obtain rfl := Option.some.inj h
      exact zR [] [] []
     ·refine zk ?_
      refine zo ?_
      refine zS 2 [(2, .sl (.pair (.int .i64) (.int .i64)) r0), (3, .bp 3 0), (4, .bp 4 0), (51, .agg [.int .i64 c.1, .sl (.pair (.int .i64) (.pair (.int .i64) (.int .i64))) c.2]), (52, .agg [.int .i64 a.1, .sl (.pair (.int .i64) (.pair (.int .i64) (.int .i64))) a.2])] [(3, .box 24 [.int .i64 c.1, .sl (.pair (.int .i64) (.pair (.int .i64) (.int .i64))) c.2]), (4, .box 24 [.int .i64 a.1, .sl (.pair (.int .i64) (.pair (.int .i64) (.int .i64))) a.2])] ?_
      obtain ⟨v0_9, hv17, h⟩ := Option.bind_eq_some_iff.1 h
      refine zC [] [] (hc_refine_Proof c a hv17) [(2, .sl (.pair (.int .i64) (.int .i64)) r0), (3, .bp 3 0), (4, .bp 4 0), (53, .tup [.own 63000, .int .i64 v0_9.2])] [(3, .box 24 [.int .i64 c.1, .sl (.pair (.int .i64) (.pair (.int .i64) (.int .i64))) c.2]), (4, .box 24 [.int .i64 a.1, .sl (.pair (.int .i64) (.pair (.int .i64) (.int .i64))) a.2]), (63000, .arr 58 (.pair (.int .i64) (.int .i64)) v0_9.1)] ?_
      refine zB [(2, .sl (.pair (.int .i64) (.int .i64)) r0), (3, .bp 3 0), (4, .bp 4 0), (7, .own 63000), (8, .int .i64 v0_9.2)] [(3, .box 24 [.int .i64 c.1, .sl (.pair (.int .i64) (.pair (.int .i64) (.int .i64))) c.2]), (4, .box 24 [.int .i64 a.1, .sl (.pair (.int .i64) (.pair (.int .i64) (.int .i64))) a.2]), (63000, .arr 58 (.pair (.int .i64) (.int .i64)) v0_9.1)] ?_
      refine zo ?_
      refine zS 2 [(2, .sl (.pair (.int .i64) (.int .i64)) r0), (3, .bp 3 0), (4, .bp 4 0), (7, .own 63000), (8, .int .i64 v0_9.2), (57, .agg [.int .i64 c.1, .sl (.pair (.int .i64) (.pair (.int .i64) (.int .i64))) c.2]), (58, .agg [.int .i64 a.1, .sl (.pair (.int .i64) (.pair (.int .i64) (.int .i64))) a.2])] [(3, .box 24 [.int .i64 c.1, .sl (.pair (.int .i64) (.pair (.int .i64) (.int .i64))) c.2]), (4, .box 24 [.int .i64 a.1, .sl (.pair (.int .i64) (.pair (.int .i64) (.int .i64))) a.2]), (63000, .arr 58 (.pair (.int .i64) (.int .i64)) v0_9.1)] ?_
      obtain ⟨v0_10, hv18, h⟩ := Option.bind_eq_some_iff.1 h
      refine zC [] [] (hc_linealref05_Proof c a hv18) [(2, .sl (.pair (.int .i64) (.int .i64)) r0), (3, .bp 3 0), (4, .bp 4 0), (7, .own 63000), (8, .int .i64 v0_9.2), (59, .tup [.own 69000, .int .i64 v0_10.2])] [(3, .box 24 [.int .i64 c.1, .sl (.pair (.int .i64) (.pair (.int .i64) (.int .i64))) c.2]), (4, .box 24 [.int .i64 a.1, .sl (.pair (.int .i64) (.pair (.int .i64) (.int .i64))) a.2]), (63000, .arr 58 (.pair (.int .i64) (.int .i64)) v0_9.1), (69000, .arr 58 (.pair (.int .i64) (.int .i64)) v0_10.1)] ?_
      refine zB [(2, .sl (.pair (.int .i64) (.int .i64)) r0), (3, .bp 3 0), (4, .bp 4 0), (7, .own 63000), (8, .int .i64 v0_9.2), (9, .own 69000), (10, .int .i64 v0_10.2)] [(3, .box 24 [.int .i64 c.1, .sl (.pair (.int .i64) (.pair (.int .i64) (.int .i64))) c.2]), (4, .box 24 [.int .i64 a.1, .sl (.pair (.int .i64) (.pair (.int .i64) (.int .i64))) a.2]), (63000, .arr 58 (.pair (.int .i64) (.int .i64)) v0_9.1), (69000, .arr 58 (.pair (.int .i64) (.int .i64)) v0_10.1)] ?_
      refine AW.seq ?_
      refine zo ?_
      refine zS 2 [(2, .sl (.pair (.int .i64) (.int .i64)) r0), (3, .bp 3 0), (4, .bp 4 0), (8, .int .i64 v0_9.2), (10, .int .i64 v0_10.2), (62, .own 63000), (63, .own 69000)] [(3, .box 24 [.int .i64 c.1, .sl (.pair (.int .i64) (.pair (.int .i64) (.int .i64))) c.2]), (4, .box 24 [.int .i64 a.1, .sl (.pair (.int .i64) (.pair (.int .i64) (.int .i64))) a.2]), (63000, .arr 58 (.pair (.int .i64) (.int .i64)) v0_9.1), (69000, .arr 58 (.pair (.int .i64) (.int .i64)) v0_10.1)] ?_
      obtain ⟨v0_11, hv19, h⟩ := Option.bind_eq_some_iff.1 h
      refine zC [63000, 69000] [] (hc_linealref05_SamePairs v0_9.1 v0_10.1 hv19) [(2, .sl (.pair (.int .i64) (.int .i64)) r0), (3, .bp 3 0), (4, .bp 4 0), (8, .int .i64 v0_9.2), (10, .int .i64 v0_10.2), (64, .bool v0_11)] [(3, .box 24 [.int .i64 c.1, .sl (.pair (.int .i64) (.pair (.int .i64) (.int .i64))) c.2]), (4, .box 24 [.int .i64 a.1, .sl (.pair (.int .i64) (.pair (.int .i64) (.int .i64))) a.2])] ?_
      refine zS 2 [(2, .sl (.pair (.int .i64) (.int .i64)) r0), (3, .bp 3 0), (4, .bp 4 0), (8, .int .i64 v0_9.2), (10, .int .i64 v0_10.2), (66, .bool (!v0_11))] [(3, .box 24 [.int .i64 c.1, .sl (.pair (.int .i64) (.pair (.int .i64) (.int .i64))) c.2]), (4, .box 24 [.int .i64 a.1, .sl (.pair (.int .i64) (.pair (.int .i64) (.int .i64))) a.2])] ?_
      rcases zI h with ⟨hb20, h⟩ | ⟨hb20, h⟩
      ·refine zB [(2, .sl (.pair (.int .i64) (.int .i64)) r0), (3, .bp 3 0), (4, .bp 4 0), (70, .bool true)] [(3, .box 24 [.int .i64 c.1, .sl (.pair (.int .i64) (.pair (.int .i64) (.int .i64))) c.2]), (4, .box 24 [.int .i64 a.1, .sl (.pair (.int .i64) (.pair (.int .i64) (.int .i64))) a.2])] ?_
       refine AW.cond (b := true) rfl (fun _ => ?_) (fun hb21 => by cases hb21)
       refine zo ?_
       refine zB [(6, .bool false)] [] ?_
       refine zr ?_
       obtain rfl := Option.some.inj h
       exact zR [] [] []
      ·refine zB [(2, .sl (.pair (.int .i64) (.int .i64)) r0), (3, .bp 3 0), (4, .bp 4 0), (70, .bool (!(decide (v0_9.2 = v0_10.2))))] [(3, .box 24 [.int .i64 c.1, .sl (.pair (.int .i64) (.pair (.int .i64) (.int .i64))) c.2]), (4, .box 24 [.int .i64 a.1, .sl (.pair (.int .i64) (.pair (.int .i64) (.int .i64))) a.2])] ?_
       refine zQ h (fun hb22 h => ?_) (fun hb22 h => ?_)
       ·refine zo ?_
        refine zB [(6, .bool false)] [] ?_
        refine zr ?_
        obtain rfl := Option.some.inj h
        exact zR [] [] []
       ·refine zk ?_
        refine zo ?_
        refine zS 3 [(2, .sl (.pair (.int .i64) (.int .i64)) r0), (3, .bp 3 0), (4, .bp 4 0), (72, .agg [.int .i64 c.1, .sl (.pair (.int .i64) (.pair (.int .i64) (.int .i64))) c.2]), (73, .agg [.int .i64 a.1, .sl (.pair (.int .i64) (.pair (.int .i64) (.int .i64))) a.2]), (74, .sl (.pair (.int .i64) (.int .i64)) r0)] [(3, .box 24 [.int .i64 c.1, .sl (.pair (.int .i64) (.pair (.int .i64) (.int .i64))) c.2]), (4, .box 24 [.int .i64 a.1, .sl (.pair (.int .i64) (.pair (.int .i64) (.int .i64))) a.2])] ?_
        obtain ⟨v0_12, hv23, h⟩ := Option.bind_eq_some_iff.1 h
        refine zC [] [] (hc_refine_IsProof c a r0 hv23) [(2, .sl (.pair (.int .i64) (.int .i64)) r0), (3, .bp 3 0), (4, .bp 4 0), (75, .tup [.bool v0_12.1, .int .i64 v0_12.2])] [(3, .box 24 [.int .i64 c.1, .sl (.pair (.int .i64) (.pair (.int .i64) (.int .i64))) c.2]), (4, .box 24 [.int .i64 a.1, .sl (.pair (.int .i64) (.pair (.int .i64) (.int .i64))) a.2])] ?_
        refine zB [(2, .sl (.pair (.int .i64) (.int .i64)) r0), (3, .bp 3 0), (4, .bp 4 0), (8, .int .i64 v0_12.2), (11, .bool v0_12.1)] [(3, .box 24 [.int .i64 c.1, .sl (.pair (.int .i64) (.pair (.int .i64) (.int .i64))) c.2]), (4, .box 24 [.int .i64 a.1, .sl (.pair (.int .i64) (.pair (.int .i64) (.int .i64))) a.2])] ?_
        refine zo ?_
        refine zS 3 [(3, .bp 3 0), (4, .bp 4 0), (8, .int .i64 v0_12.2), (11, .bool v0_12.1), (79, .agg [.int .i64 c.1, .sl (.pair (.int .i64) (.pair (.int .i64) (.int .i64))) c.2]), (80, .agg [.int .i64 a.1, .sl (.pair (.int .i64) (.pair (.int .i64) (.int .i64))) a.2]), (81, .sl (.pair (.int .i64) (.int .i64)) r0)] [(3, .box 24 [.int .i64 c.1, .sl (.pair (.int .i64) (.pair (.int .i64) (.int .i64))) c.2]), (4, .box 24 [.int .i64 a.1, .sl (.pair (.int .i64) (.pair (.int .i64) (.int .i64))) a.2])] ?_
        obtain ⟨v0_13, hv24, h⟩ := Option.bind_eq_some_iff.1 h
        refine zC [] [] (hc_linealref05_IsProof c a r0 hv24) [(3, .bp 3 0), (4, .bp 4 0), (8, .int .i64 v0_12.2), (11, .bool v0_12.1), (82, .tup [.bool v0_13.1, .int .i64 v0_13.2])] [(3, .box 24 [.int .i64 c.1, .sl (.pair (.int .i64) (.pair (.int .i64) (.int .i64))) c.2]), (4, .box 24 [.int .i64 a.1, .sl (.pair (.int .i64) (.pair (.int .i64) (.int .i64))) a.2])] ?_
        refine zB [(3, .bp 3 0), (4, .bp 4 0), (8, .int .i64 v0_12.2), (10, .int .i64 v0_13.2), (11, .bool v0_12.1), (12, .bool v0_13.1)] [(3, .box 24 [.int .i64 c.1, .sl (.pair (.int .i64) (.pair (.int .i64) (.int .i64))) c.2]), (4, .box 24 [.int .i64 a.1, .sl (.pair (.int .i64) (.pair (.int .i64) (.int .i64))) a.2])] ?_
        refine zo ?_
        refine zS 2 [(3, .bp 3 0), (4, .bp 4 0), (8, .int .i64 v0_12.2), (10, .int .i64 v0_13.2), (11, .bool v0_12.1), (12, .bool v0_13.1), (86, .agg [.int .i64 c.1, .sl (.pair (.int .i64) (.pair (.int .i64) (.int .i64))) c.2]), (87, .agg [.int .i64 a.1, .sl (.pair (.int .i64) (.pair (.int .i64) (.int .i64))) a.2])] [(3, .box 24 [.int .i64 c.1, .sl (.pair (.int .i64) (.pair (.int .i64) (.int .i64))) c.2]), (4, .box 24 [.int .i64 a.1, .sl (.pair (.int .i64) (.pair (.int .i64) (.int .i64))) a.2])] ?_
        obtain ⟨v0_14, hv25, h⟩ := Option.bind_eq_some_iff.1 h
        refine zC [] [] (hc_refine_Refines c a hv25) [(3, .bp 3 0), (4, .bp 4 0), (8, .int .i64 v0_12.2), (10, .int .i64 v0_13.2), (11, .bool v0_12.1), (12, .bool v0_13.1), (88, .tup [.bool v0_14.1, .int .i64 v0_14.2])] [(3, .box 24 [.int .i64 c.1, .sl (.pair (.int .i64) (.pair (.int .i64) (.int .i64))) c.2]), (4, .box 24 [.int .i64 a.1, .sl (.pair (.int .i64) (.pair (.int .i64) (.int .i64))) a.2])] ?_
        refine zB [(3, .bp 3 0), (4, .bp 4 0), (8, .int .i64 v0_12.2), (10, .int .i64 v0_13.2), (11, .bool v0_12.1), (12, .bool v0_13.1), (13, .bool v0_14.1), (14, .int .i64 v0_14.2)] [(3, .box 24 [.int .i64 c.1, .sl (.pair (.int .i64) (.pair (.int .i64) (.int .i64))) c.2]), (4, .box 24 [.int .i64 a.1, .sl (.pair (.int .i64) (.pair (.int .i64) (.int .i64))) a.2])] ?_
        refine zo ?_
        refine zS 2 [(8, .int .i64 v0_12.2), (10, .int .i64 v0_13.2), (11, .bool v0_12.1), (12, .bool v0_13.1), (13, .bool v0_14.1), (14, .int .i64 v0_14.2), (92, .agg [.int .i64 c.1, .sl (.pair (.int .i64) (.pair (.int .i64) (.int .i64))) c.2]), (93, .agg [.int .i64 a.1, .sl (.pair (.int .i64) (.pair (.int .i64) (.int .i64))) a.2])] [] ?_
        obtain ⟨v0_15, hv26, h⟩ := Option.bind_eq_some_iff.1 h
        refine zC [] [] (hc_linealref05_Refines c a hv26) [(8, .int .i64 v0_12.2), (10, .int .i64 v0_13.2), (11, .bool v0_12.1), (12, .bool v0_13.1), (13, .bool v0_14.1), (14, .int .i64 v0_14.2), (94, .tup [.bool v0_15.1, .int .i64 v0_15.2])] [] ?_
        refine zB [(8, .int .i64 v0_12.2), (10, .int .i64 v0_13.2), (11, .bool v0_12.1), (12, .bool v0_13.1), (13, .bool v0_14.1), (14, .int .i64 v0_14.2), (15, .bool v0_15.1), (16, .int .i64 v0_15.2)] [] ?_
        refine zo ?_
        refine zS 4 [(8, .int .i64 v0_12.2), (10, .int .i64 v0_13.2), (13, .bool v0_14.1), (14, .int .i64 v0_14.2), (15, .bool v0_15.1), (16, .int .i64 v0_15.2), (100, .bool ((v0_12.1 == v0_13.1) != false))] [] ?_
        rcases zI h with ⟨hb27, h⟩ | ⟨hb27, h⟩
        ·refine zS 5 [(13, .bool v0_14.1), (14, .int .i64 v0_14.2), (15, .bool v0_15.1), (16, .int .i64 v0_15.2), (105, .bool (decide (v0_12.2 = v0_13.2)))] [] ?_
         rcases zI h with ⟨hb28, h⟩ | ⟨hb28, h⟩
         ·refine zS 5 [(14, .int .i64 v0_14.2), (16, .int .i64 v0_15.2), (110, .bool ((v0_14.1 == v0_15.1) != false))] [] ?_
          rcases zI h with ⟨hb29, h⟩ | ⟨hb29, h⟩
          ·refine zS 5 [(115, .bool (decide (v0_14.2 = v0_15.2)))] [] ?_
           rcases zI h with ⟨hb30, h⟩ | ⟨hb30, h⟩
           ·refine zT [(115, .bool true)] [] gt ?_
            obtain ⟨v0_16, hv31, h⟩ := Option.bind_eq_some_iff.1 h
            refine zG [] [] (hc_lineallaw05_Awake hv31) [(115, .bool true), (116, .bool v0_16)] [] ?_
            refine zB [(6, .bool v0_16)] [] ?_
            refine AW.ret ?_
            obtain rfl := Option.some.inj h
            exact zR [] [] []
           ·refine zB [(6, .bool false)] [] ?_
            refine AW.ret ?_
            obtain rfl := Option.some.inj h
            exact zR [] [] []
          ·refine zS 5 [(115, .bool false)] [] ?_
           refine zB [(6, .bool false)] [] ?_
           refine AW.ret ?_
           obtain rfl := Option.some.inj h
           exact zR [] [] []
         ·refine zS 5 [(14, .int .i64 v0_14.2), (16, .int .i64 v0_15.2), (110, .bool false)] [] ?_
          refine zS 5 [(115, .bool false)] [] ?_
          refine zB [(6, .bool false)] [] ?_
          refine AW.ret ?_
          obtain rfl := Option.some.inj h
          exact zR [] [] []
        ·refine zS 5 [(13, .bool v0_14.1), (14, .int .i64 v0_14.2), (15, .bool v0_15.1), (16, .int .i64 v0_15.2), (105, .bool false)] [] ?_
         refine zS 5 [(14, .int .i64 v0_14.2), (16, .int .i64 v0_15.2), (110, .bool false)] [] ?_
         refine zS 5 [(115, .bool false)] [] ?_
         refine zB [(6, .bool false)] [] ?_
         refine AW.ret ?_
         obtain rfl := Option.some.inj h
         exact zR [] [] []

end Go.Proofs.Ytifleoceebaooaa
