/-
  Made by wip/tool/dc.py out of the print of the program: contracts.
-/
import Derived.Test.YtifleoceebaooaaRfp
import Derived.Test.YtifleoceebaooaaShr
import Derived.Test.YtifleoceebaooaaAvd
import Derived.Test.YtifleoceebaooaaNuc4
import Derived.Test.YtifleoceebaooaaNuc8
import Derived.Test.YtifleoceebaooaaNuc9
namespace Go.Proofs.Ytifleoceebaooaa
open Go.RowKit

set_option linter.unusedSimpArgs false
set_option linter.unusedVariables false
set_option linter.constructorNameAsVariable false

set_option maxRecDepth 100000
set_option maxHeartbeats 2000000

theorem hc_linealref05_IsProof (c : Int × (List (Int × Int × Int))) (a : Int × (List (Int × Int × Int))) (r0 : List (Int × Int)) {r : Bool × Int} (h : linealref05_IsProof c a r0 = some r) : HC Try.prog 38 [] [.agg [.int .i64 c.1, .sl Y0 c.2], .agg [.int .i64 a.1, .sl Y0 a.2], .sl (.pair (.int .i64) (.int .i64)) r0] [] (.tup [.bool r.1, .int .i64 r.2]) := by
 unfold linealref05_IsProof at h
 refine zH Try.func38 [.tmp 6, .tmp 7] 64 ?_
 refine zo ?_
 refine zB [(2, .sl (.pair (.int .i64) (.int .i64)) r0), (3, .bp 3 0), (4, .bp 4 0)] [(3, .box 24 [.int .i64 c.1, .sl Y0 c.2]), (4, .box 24 [.int .i64 a.1, .sl Y0 a.2])] ?_
 refine AW.seq ?_
 refine zo ?_
 refine zS 1 [(2, .sl (.pair (.int .i64) (.int .i64)) r0), (3, .bp 3 0), (4, .bp 4 0), (13, .agg [.int .i64 c.1, .sl Y0 c.2])] [(3, .box 24 [.int .i64 c.1, .sl Y0 c.2]), (4, .box 24 [.int .i64 a.1, .sl Y0 a.2])] ?_
 obtain ⟨v0, hv1, h⟩ := Option.bind_eq_some_iff.1 h
 refine zC [] [] (hc_linealref05_Valid c hv1) [(2, .sl (.pair (.int .i64) (.int .i64)) r0), (3, .bp 3 0), (4, .bp 4 0), (14, .bool v0)] [(3, .box 24 [.int .i64 c.1, .sl Y0 c.2]), (4, .box 24 [.int .i64 a.1, .sl Y0 a.2])] ?_
 refine zS 2 [(2, .sl (.pair (.int .i64) (.int .i64)) r0), (3, .bp 3 0), (4, .bp 4 0), (16, .bool (!v0))] [(3, .box 24 [.int .i64 c.1, .sl Y0 c.2]), (4, .box 24 [.int .i64 a.1, .sl Y0 a.2])] ?_
 rcases zI h with ⟨hb2, h⟩ | ⟨hb2, h⟩
 ·refine zB [(2, .sl (.pair (.int .i64) (.int .i64)) r0), (3, .bp 3 0), (4, .bp 4 0), (20, .bool true)] [(3, .box 24 [.int .i64 c.1, .sl Y0 c.2]), (4, .box 24 [.int .i64 a.1, .sl Y0 a.2])] ?_
  refine AW.cond (b := true) rfl (fun _ => ?_) (fun hb3 => by cases hb3)
  refine zo ?_
  refine zB [(6, .bool false), (7, .int .i64 50)] [] ?_
  refine zr ?_
  obtain rfl := Option.some.inj h
  exact zR [] [] []
 ·refine zS 1 [(2, .sl (.pair (.int .i64) (.int .i64)) r0), (3, .bp 3 0), (4, .bp 4 0), (16, .bool false), (17, .agg [.int .i64 a.1, .sl Y0 a.2])] [(3, .box 24 [.int .i64 c.1, .sl Y0 c.2]), (4, .box 24 [.int .i64 a.1, .sl Y0 a.2])] ?_
  obtain ⟨v0_2, hv4, h⟩ := Option.bind_eq_some_iff.1 h
  refine zG [] [] (hc_linealref05_Valid a hv4) [(2, .sl (.pair (.int .i64) (.int .i64)) r0), (3, .bp 3 0), (4, .bp 4 0), (16, .bool false), (18, .bool v0_2)] [(3, .box 24 [.int .i64 c.1, .sl Y0 c.2]), (4, .box 24 [.int .i64 a.1, .sl Y0 a.2])] ?_
  refine zB [(2, .sl (.pair (.int .i64) (.int .i64)) r0), (3, .bp 3 0), (4, .bp 4 0), (20, .bool (!v0_2))] [(3, .box 24 [.int .i64 c.1, .sl Y0 c.2]), (4, .box 24 [.int .i64 a.1, .sl Y0 a.2])] ?_
  refine zQ h (fun hb5 h => ?_) (fun hb5 h => ?_)
  ·refine zo ?_
   refine zB [(6, .bool false), (7, .int .i64 50)] [] ?_
   refine zr ?_
   obtain rfl := Option.some.inj h
   exact zR [] [] []
  ·refine zk ?_
   refine AW.seq ?_
   refine zo ?_
   refine zS 5 [(2, .sl (.pair (.int .i64) (.int .i64)) r0), (3, .bp 3 0), (4, .bp 4 0), (21, .sl (.pair (.int .i64) (.int .i64)) r0), (23, .int .i64 c.1), (25, .int .i64 a.1)] [(3, .box 24 [.int .i64 c.1, .sl Y0 c.2]), (4, .box 24 [.int .i64 a.1, .sl Y0 a.2])] ?_
   obtain ⟨v0_3, hv6, h⟩ := Option.bind_eq_some_iff.1 h
   refine zC [] [] (hc_linealref05_isRelation r0 c.1 a.1 hv6) [(2, .sl (.pair (.int .i64) (.int .i64)) r0), (3, .bp 3 0), (4, .bp 4 0), (26, .bool v0_3)] [(3, .box 24 [.int .i64 c.1, .sl Y0 c.2]), (4, .box 24 [.int .i64 a.1, .sl Y0 a.2])] ?_
   refine zB [(2, .sl (.pair (.int .i64) (.int .i64)) r0), (3, .bp 3 0), (4, .bp 4 0), (27, .bool (!v0_3))] [(3, .box 24 [.int .i64 c.1, .sl Y0 c.2]), (4, .box 24 [.int .i64 a.1, .sl Y0 a.2])] ?_
   refine zQ h (fun hb7 h => ?_) (fun hb7 h => ?_)
   ·refine zo ?_
    refine zB [(6, .bool false), (7, .int .i64 2)] [] ?_
    refine zr ?_
    obtain rfl := Option.some.inj h
    exact zR [] [] []
   ·refine zk ?_
    refine zo ?_
    obtain ⟨c8, h⟩ := ck_some.1 h
    obtain ⟨c9, h⟩ := ck_some.1 h
    refine zB [(2, .sl (.pair (.int .i64) (.int .i64)) r0), (3, .bp 3 0), (4, .bp 4 0), (8, .own 30)] [(3, .box 24 [.int .i64 c.1, .sl Y0 c.2]), (4, .box 24 [.int .i64 a.1, .sl Y0 a.2]), (30, .arr 3 (.int .i64) (List.replicate c.1.toNat (0 : Int)))] ?_
    refine AW.have1 (fun b1 : (List Int) => linealref05_IsProof_k1 c a r0 b1 = some r) (fun b1 => ⟨fr [(2, .sl (.pair (.int .i64) (.int .i64)) r0), (3, .bp 3 0), (4, .bp 4 0), (8, .own 30)], hpGet [(3, .box 24 [.int .i64 c.1, .sl Y0 c.2]), (4, .box 24 [.int .i64 a.1, .sl Y0 a.2]), (30, .arr 3 (.int .i64) b1)], gt⟩) (fun b1 h => ?_) (fun hk_linealref05_IsProof_k1 => ?_)
    ·as_aux_lemma =>
      unfold linealref05_IsProof_k1 at h
      refine AW.have1 (fun _ : Unit => linealref05_IsProof_k2 = some r) (fun _ => ⟨fr [], hpGet [], gt⟩) (fun _ h => ?_) (fun hk_linealref05_IsProof_k2 => ?_)
      ·as_aux_lemma =>
        unfold linealref05_IsProof_k2 at h
        refine zo ?_
        refine zB [(6, .bool true), (7, .int .i64 0)] [] ?_
        refine AW.ret ?_
        obtain rfl := Option.some.inj h
        exact zR [] [] []
      ·refine AW.seq ?_
       refine zo ?_
       refine zB [(3, .bp 3 0), (4, .bp 4 0), (8, .own 30), (48, .sl (.pair (.int .i64) (.int .i64)) r0), (49, .int .i64 (r0.length : Int)), (50, .int .i64 0)] [(3, .box 24 [.int .i64 c.1, .sl Y0 c.2]), (4, .box 24 [.int .i64 a.1, .sl Y0 a.2]), (30, .arr 3 (.int .i64) b1)] ?_
       refine AW.block ?_
       obtain ⟨rv14, hw10, ho11⟩ := Option.bind_eq_some_iff.1 h
       refine AW.loopO (linealref05_IsProof_b2 c a r0 b1) (fun st2 => ⟨fr [(3, .bp 3 0), (4, .bp 4 0), (8, .own 30), (48, .sl (.pair (.int .i64) (.int .i64)) r0), (49, .int .i64 (r0.length : Int)), (50, .int .i64 st2)], hpGet [(3, .box 24 [.int .i64 c.1, .sl Y0 c.2]), (4, .box 24 [.int .i64 a.1, .sl Y0 a.2]), (30, .arr 3 (.int .i64) b1)], gt⟩) 0 hw10 (zL [] [] []) ?_
       as_aux_lemma =>
        intro st2 x13 h hd12
        unfold linealref05_IsProof_b2 at h
        refine zo ?_
        refine zB [(3, .bp 3 0), (4, .bp 4 0), (8, .own 30), (48, .sl (.pair (.int .i64) (.int .i64)) r0), (49, .int .i64 (r0.length : Int)), (50, .int .i64 st2), (51, .bool (decide (st2 < (r0.length : Int))))] [(3, .box 24 [.int .i64 c.1, .sl Y0 c.2]), (4, .box 24 [.int .i64 a.1, .sl Y0 a.2]), (30, .arr 3 (.int .i64) b1)] ?_
        refine AW.seq ?_
        refine zQ h (fun hb15 h => ?_) (fun hb15 h => ?_)
        ·refine zk ?_
         refine AW.seq ?_
         refine AW.block ?_
         refine zo ?_
         obtain ⟨c16, h⟩ := ck_some.1 h
         obtain ⟨c17, h⟩ := ck_some.1 h
         refine zB [(3, .bp 3 0), (4, .bp 4 0), (8, .own 30), (12, .bp 12 0), (48, .sl (.pair (.int .i64) (.int .i64)) r0), (49, .int .i64 (r0.length : Int)), (50, .int .i64 st2)] [(3, .box 24 [.int .i64 c.1, .sl Y0 c.2]), (4, .box 24 [.int .i64 a.1, .sl Y0 a.2]), (12, .box 58 [.int .i64 (r0.getD st2.toNat (0, 0)).1, .int .i64 (r0.getD st2.toNat (0, 0)).2]), (30, .arr 3 (.int .i64) b1)] ?_
         refine zo ?_
         refine zS 5 [(3, .bp 3 0), (4, .bp 4 0), (8, .own 30), (12, .bp 12 0), (48, .sl (.pair (.int .i64) (.int .i64)) r0), (49, .int .i64 (r0.length : Int)), (50, .int .i64 st2), (54, .agg [.int .i64 c.1, .sl Y0 c.2]), (55, .agg [.int .i64 a.1, .sl Y0 a.2]), (56, .own 30), (58, .int .i64 (r0.getD st2.toNat (0, 0)).1)] [(3, .box 24 [.int .i64 c.1, .sl Y0 c.2]), (4, .box 24 [.int .i64 a.1, .sl Y0 a.2]), (12, .box 58 [.int .i64 (r0.getD st2.toNat (0, 0)).1, .int .i64 (r0.getD st2.toNat (0, 0)).2]), (30, .arr 3 (.int .i64) b1)] ?_
         refine zS 2 [(3, .bp 3 0), (4, .bp 4 0), (8, .own 30), (48, .sl (.pair (.int .i64) (.int .i64)) r0), (49, .int .i64 (r0.length : Int)), (50, .int .i64 st2), (54, .agg [.int .i64 c.1, .sl Y0 c.2]), (55, .agg [.int .i64 a.1, .sl Y0 a.2]), (56, .own 30), (58, .int .i64 (r0.getD st2.toNat (0, 0)).1), (60, .int .i64 (r0.getD st2.toNat (0, 0)).2)] [(3, .box 24 [.int .i64 c.1, .sl Y0 c.2]), (4, .box 24 [.int .i64 a.1, .sl Y0 a.2]), (30, .arr 3 (.int .i64) b1)] ?_
         obtain ⟨v0_4, hv18, h⟩ := Option.bind_eq_some_iff.1 h
         refine zC [30] [] (hc_linealref05_holds c a b1 (r0.getD st2.toNat (0, 0)).1 (r0.getD st2.toNat (0, 0)).2 hv18) [(3, .bp 3 0), (4, .bp 4 0), (8, .own 30), (48, .sl (.pair (.int .i64) (.int .i64)) r0), (49, .int .i64 (r0.length : Int)), (50, .int .i64 st2), (61, .bool v0_4)] [(3, .box 24 [.int .i64 c.1, .sl Y0 c.2]), (4, .box 24 [.int .i64 a.1, .sl Y0 a.2]), (30, .arr 3 (.int .i64) b1)] ?_
         refine zB [(3, .bp 3 0), (4, .bp 4 0), (8, .own 30), (48, .sl (.pair (.int .i64) (.int .i64)) r0), (49, .int .i64 (r0.length : Int)), (50, .int .i64 st2), (62, .bool (!v0_4))] [(3, .box 24 [.int .i64 c.1, .sl Y0 c.2]), (4, .box 24 [.int .i64 a.1, .sl Y0 a.2]), (30, .arr 3 (.int .i64) b1)] ?_
         refine zQ h (fun hb19 h => ?_) (fun hb19 h => ?_)
         ·refine zo ?_
          refine zB [(6, .bool false), (7, .int .i64 0)] [] ?_
          refine AW.ret ?_
          refine ablock_r ?_
          refine athen_r ?_
          obtain rfl := Option.some.inj h
          rw [← hd12 _ rfl] at ho11
          have h := ho11
          try simp only at h
          refine athen_r ?_
          refine ablock_r ?_
          refine athen_r ?_
          obtain rfl := Option.some.inj h
          exact zR [] [] []
         ·refine zm ?_
          refine athen_n ?_
          refine AW.ops ?_
          obtain ⟨c20, h⟩ := ck_some.1 h
          refine zA [(3, .bp 3 0), (4, .bp 4 0), (8, .own 30), (48, .sl (.pair (.int .i64) (.int .i64)) r0), (49, .int .i64 (r0.length : Int)), (50, .int .i64 (st2 + 1))] [(3, .box 24 [.int .i64 c.1, .sl Y0 c.2]), (4, .box 24 [.int .i64 a.1, .sl Y0 a.2]), (30, .arr 3 (.int .i64) b1)] ?_
          obtain rfl := Option.some.inj h
          exact ⟨_, rfl, zL [] [] []⟩
        ·refine AW.exit ?_
         refine athen_e ?_
         obtain rfl := Option.some.inj h
         rw [← hd12 _ rfl] at ho11
         have h := ho11
         try simp only at h
         refine athen_e ?_
         refine ablock_s ?_
         refine athen_n ?_
         exact AW.weaken (zL [] [] []) (hk_linealref05_IsProof_k2 () h)
    ·refine AW.seq ?_
     refine zo ?_
     refine zB [(2, .sl (.pair (.int .i64) (.int .i64)) r0), (3, .bp 3 0), (4, .bp 4 0), (8, .own 30), (31, .sl (.pair (.int .i64) (.int .i64)) r0), (32, .int .i64 (r0.length : Int)), (33, .int .i64 0)] [(3, .box 24 [.int .i64 c.1, .sl Y0 c.2]), (4, .box 24 [.int .i64 a.1, .sl Y0 a.2]), (30, .arr 3 (.int .i64) (List.replicate c.1.toNat (0 : Int)))] ?_
     refine AW.block ?_
     obtain ⟨rv25, hw21, ho22⟩ := Option.bind_eq_some_iff.1 h
     refine AW.loopO (linealref05_IsProof_b1 r0) (fun st1 => ⟨fr [(2, .sl (.pair (.int .i64) (.int .i64)) r0), (3, .bp 3 0), (4, .bp 4 0), (8, .own 30), (31, .sl (.pair (.int .i64) (.int .i64)) r0), (32, .int .i64 (r0.length : Int)), (33, .int .i64 st1.2)], hpGet [(3, .box 24 [.int .i64 c.1, .sl Y0 c.2]), (4, .box 24 [.int .i64 a.1, .sl Y0 a.2]), (30, .arr 3 (.int .i64) st1.1)], gt⟩) ((List.replicate c.1.toNat (0 : Int)), 0) hw21 (zL [] [] []) ?_
     as_aux_lemma =>
      intro st1 x24 h hd23
      unfold linealref05_IsProof_b1 at h
      refine zo ?_
      refine zB [(2, .sl (.pair (.int .i64) (.int .i64)) r0), (3, .bp 3 0), (4, .bp 4 0), (8, .own 30), (31, .sl (.pair (.int .i64) (.int .i64)) r0), (32, .int .i64 (r0.length : Int)), (33, .int .i64 st1.2), (34, .bool (decide (st1.2 < (r0.length : Int))))] [(3, .box 24 [.int .i64 c.1, .sl Y0 c.2]), (4, .box 24 [.int .i64 a.1, .sl Y0 a.2]), (30, .arr 3 (.int .i64) st1.1)] ?_
      refine AW.seq ?_
      refine zQ h (fun hb26 h => ?_) (fun hb26 h => ?_)
      ·refine zk ?_
       refine AW.seq ?_
       refine AW.block ?_
       refine zo ?_
       obtain ⟨c27, h⟩ := ck_some.1 h
       obtain ⟨c28, h⟩ := ck_some.1 h
       refine zB [(2, .sl (.pair (.int .i64) (.int .i64)) r0), (3, .bp 3 0), (4, .bp 4 0), (8, .own 30), (10, .bp 10 0), (31, .sl (.pair (.int .i64) (.int .i64)) r0), (32, .int .i64 (r0.length : Int)), (33, .int .i64 st1.2)] [(3, .box 24 [.int .i64 c.1, .sl Y0 c.2]), (4, .box 24 [.int .i64 a.1, .sl Y0 a.2]), (10, .box 58 [.int .i64 (r0.getD st1.2.toNat (0, 0)).1, .int .i64 (r0.getD st1.2.toNat (0, 0)).2]), (30, .arr 3 (.int .i64) st1.1)] ?_
       refine AW.draw tab_ok mixed_ok [(10, [30])] [] (by decide) (lex_fast (by kernel_rfl)) ?_
       as_aux_lemma =>
        obtain ⟨c30, h⟩ := ck_some.1 h
        obtain ⟨c31, h⟩ := ck_some.1 h
        refine adops_cut 6 (fun K' hK29 => ?_)
        try dsimp only [List.drop_succ_cons, List.drop_zero, List.take_succ_cons, List.take_zero]
        simp only [go_sem, hb2, hb5, hb7, hb26]
        repeat with_reducible refine zN ?_
        refine hK29 _ ?_
        as_aux_lemma =>
         obtain ⟨c33, h⟩ := ck_some.1 h
         obtain ⟨c34, h⟩ := ck_some.1 h
         obtain ⟨c35, h⟩ := ck_some.1 h
         refine adops_cut 5 (fun K' hK32 => ?_)
         try dsimp only [List.drop_succ_cons, List.drop_zero, List.take_succ_cons, List.take_zero]
         simp only [go_sem, hb2, hb5, hb7, hb26]
         repeat with_reducible refine zN ?_
         refine hK32 _ ?_
         refine adops_nil ?_
         refine ablock_n ?_
         refine athen_n ?_
         refine zV [(2, .sl (.pair (.int .i64) (.int .i64)) r0), (3, .bp 3 0), (4, .bp 4 0), (8, .own 30), (31, .sl (.pair (.int .i64) (.int .i64)) r0), (32, .int .i64 (r0.length : Int)), (33, .int .i64 st1.2)] [(3, .box 24 [.int .i64 c.1, .sl Y0 c.2]), (4, .box 24 [.int .i64 a.1, .sl Y0 a.2]), (30, .arr 3 (.int .i64) (st1.1.set (r0.getD st1.2.toNat (0, 0)).1.toNat (ior .i64 (st1.1.getD (r0.getD st1.2.toNat (0, 0)).1.toNat 0) (ishl .i64 1 (r0.getD st1.2.toNat (0, 0)).2))))] gt ?_
         as_aux_lemma =>
          refine AW.ops ?_
          obtain ⟨c36, h⟩ := ck_some.1 h
          refine zA [(2, .sl (.pair (.int .i64) (.int .i64)) r0), (3, .bp 3 0), (4, .bp 4 0), (8, .own 30), (31, .sl (.pair (.int .i64) (.int .i64)) r0), (32, .int .i64 (r0.length : Int)), (33, .int .i64 (st1.2 + 1))] [(3, .box 24 [.int .i64 c.1, .sl Y0 c.2]), (4, .box 24 [.int .i64 a.1, .sl Y0 a.2]), (30, .arr 3 (.int .i64) (st1.1.set (r0.getD st1.2.toNat (0, 0)).1.toNat (ior .i64 (st1.1.getD (r0.getD st1.2.toNat (0, 0)).1.toNat 0) (ishl .i64 1 (r0.getD st1.2.toNat (0, 0)).2))))] ?_
          obtain rfl := Option.some.inj h
          exact ⟨_, rfl, zL [] [] []⟩
      ·refine AW.exit ?_
       refine athen_e ?_
       obtain rfl := Option.some.inj h
       rw [← hd23 _ rfl] at ho22
       have h := ho22
       refine athen_e ?_
       refine ablock_s ?_
       refine athen_n ?_
       exact AW.weaken (zL [] [] []) (hk_linealref05_IsProof_k1 _ h)

end Go.Proofs.Ytifleoceebaooaa
