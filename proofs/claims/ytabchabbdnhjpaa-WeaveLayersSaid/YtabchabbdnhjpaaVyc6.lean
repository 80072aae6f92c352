/-
  Made by wip/tool/dc.py out of the print of the program: contracts.
-/
import Derived.Test.YtabchabbdnhjpaaVp
import Derived.Test.YtabchabbdnhjpaaSh6
import Derived.Test.YtabchabbdnhjpaaVyc2
import Derived.Test.YtabchabbdnhjpaaVyc3
import Derived.Test.YtabchabbdnhjpaaVyc4
import Derived.Test.YtabchabbdnhjpaaVyc5
namespace Go.Proofs.Ytabchabbdnhjpaa
open Go.RowKit

set_option linter.unusedSimpArgs false
set_option linter.unusedVariables false
set_option linter.constructorNameAsVariable false

set_option maxRecDepth 100000
set_option maxHeartbeats 2000000

theorem hc_lineallaw03_WeaveLayers (l : Int × (List (Int × Int))) (w : List Int) {r : Bool} (h : lineallaw03_WeaveLayers l w = some r) : HC Try.prog 5 [] [.agg [.int .i64 l.1, .sl (.pair (.int .i64) (.int .i64)) l.2], .sl (.int .i64) w] [] (.bool r) := by
 unfold lineallaw03_WeaveLayers at h
 refine zH Try.func5 [.tmp 4] 125 ?_
 refine zo ?_
 refine zB [(1, .sl (.int .i64) w), (2, .bp 2 0)] [(2, .box 24 [.int .i64 l.1, .sl (.pair (.int .i64) (.int .i64)) l.2])] ?_
 refine AW.seq ?_
 refine zo ?_
 refine zS 3 [(1, .sl (.int .i64) w), (2, .bp 2 0), (18, .agg [.int .i64 l.1, .sl (.pair (.int .i64) (.int .i64)) l.2]), (20, .own 20)] [(2, .box 24 [.int .i64 l.1, .sl (.pair (.int .i64) (.int .i64)) l.2]), (20, .arr 25 (.sl (.int .i64)) [w])] ?_
 obtain ⟨v0, hv1, h⟩ := Option.bind_eq_some_iff.1 h
 refine zC [20] [] (hc_lineallaw03_valid l [w] hv1) [(1, .sl (.int .i64) w), (2, .bp 2 0), (21, .bool v0)] [(2, .box 24 [.int .i64 l.1, .sl (.pair (.int .i64) (.int .i64)) l.2])] ?_
 refine zB [(1, .sl (.int .i64) w), (2, .bp 2 0), (22, .bool (!v0))] [(2, .box 24 [.int .i64 l.1, .sl (.pair (.int .i64) (.int .i64)) l.2])] ?_
 refine zQ h (fun hb2 h => ?_) (fun hb2 h => ?_)
 ·refine zo ?_
  obtain ⟨v0_2, hv3, h⟩ := Option.bind_eq_some_iff.1 h
  refine zC [] [] (hc_lineallaw03_Awake hv3) [(23, .bool v0_2)] [] ?_
  refine zB [(4, .bool v0_2)] [] ?_
  refine zr ?_
  obtain rfl := Option.some.inj h
  exact zR [] [] []
 ·refine zk ?_
  refine zo ?_
  refine zS 2 [(1, .sl (.int .i64) w), (2, .bp 2 0), (25, .agg [.int .i64 l.1, .sl (.pair (.int .i64) (.int .i64)) l.2]), (26, .sl (.int .i64) w)] [(2, .box 24 [.int .i64 l.1, .sl (.pair (.int .i64) (.int .i64)) l.2])] ?_
  obtain ⟨v0_3, hv4, h⟩ := Option.bind_eq_some_iff.1 h
  refine zC [] [] (hc_weave_Layers l w hv4) [(1, .sl (.int .i64) w), (2, .bp 2 0), (27, .tup [.sl (.sl (.int .i64)) v0_3.1, .int .i64 v0_3.2])] [(2, .box 24 [.int .i64 l.1, .sl (.pair (.int .i64) (.int .i64)) l.2])] ?_
  refine zB [(1, .sl (.int .i64) w), (2, .bp 2 0), (5, .sl (.sl (.int .i64)) v0_3.1), (6, .int .i64 v0_3.2)] [(2, .box 24 [.int .i64 l.1, .sl (.pair (.int .i64) (.int .i64)) l.2])] ?_
  refine AW.seq ?_
  refine zo ?_
  refine zB [(1, .sl (.int .i64) w), (2, .bp 2 0), (5, .sl (.sl (.int .i64)) v0_3.1), (31, .bool (!(decide (v0_3.2 = 0))))] [(2, .box 24 [.int .i64 l.1, .sl (.pair (.int .i64) (.int .i64)) l.2])] ?_
  refine zQ h (fun hb5 h => ?_) (fun hb5 h => ?_)
  ·refine zo ?_
   refine zB [(4, .bool false)] [] ?_
   refine zr ?_
   obtain rfl := Option.some.inj h
   exact zR [] [] []
  ·refine zk ?_
   refine zo ?_
   refine zB [(1, .sl (.int .i64) w), (2, .bp 2 0), (5, .sl (.sl (.int .i64)) v0_3.1), (7, .cv (.slice none 0 0))] [(2, .box 24 [.int .i64 l.1, .sl (.pair (.int .i64) (.int .i64)) l.2])] ?_
   refine AW.have1 (fun b6 : (List Int) => lineallaw03_WeaveLayers_k1 l w b6 = some r) (fun b6 => ⟨fr [(1, .sl (.int .i64) w), (2, .bp 2 0), (7, .own 108)], hpGet [(2, .box 24 [.int .i64 l.1, .sl (.pair (.int .i64) (.int .i64)) l.2]), (108, .arr 3 (.int .i64) b6)], gt⟩) (fun b6 h => ?_) (fun hk_lineallaw03_WeaveLayers_k1 => ?_)
   ·as_aux_lemma =>
     unfold lineallaw03_WeaveLayers_k1 at h
     refine zo ?_
     refine zS 3 [(111, .agg [.int .i64 l.1, .sl (.pair (.int .i64) (.int .i64)) l.2]), (112, .sl (.int .i64) w), (113, .own 108)] [(108, .arr 3 (.int .i64) b6)] ?_
     obtain ⟨v0_7, hv6, h⟩ := Option.bind_eq_some_iff.1 h
     refine zC [108] [] (hc_weave_Equal l w b6 hv6) [(114, .tup [.bool v0_7.1, .int .i64 v0_7.2])] [] ?_
     refine zB [(6, .int .i64 v0_7.2), (17, .bool v0_7.1)] [] ?_
     refine zo ?_
     refine zS 3 [(17, .bool v0_7.1), (119, .bool (decide (v0_7.2 = 0)))] [] ?_
     rcases zI h with ⟨hb7, h⟩ | ⟨hb7, h⟩
     ·refine zS 3 [(122, .bool v0_7.1)] [] ?_
      rcases zI h with ⟨hb8, h⟩ | ⟨hb8, h⟩
      ·refine zT [(122, .bool true)] [] gt ?_
       obtain ⟨v0_8, hv9, h⟩ := Option.bind_eq_some_iff.1 h
       refine zG [] [] (hc_lineallaw03_Awake hv9) [(122, .bool true), (123, .bool v0_8)] [] ?_
       refine zB [(4, .bool v0_8)] [] ?_
       refine AW.ret ?_
       obtain rfl := Option.some.inj h
       exact zR [] [] []
      ·refine zB [(4, .bool false)] [] ?_
       refine AW.ret ?_
       obtain rfl := Option.some.inj h
       exact zR [] [] []
     ·refine zS 5 [(124, .bool false)] [] ?_
      refine zB [(4, .bool false)] [] ?_
      refine AW.ret ?_
      obtain rfl := Option.some.inj h
      exact zR [] [] []
   ·refine AW.seq ?_
    refine zo ?_
    refine zB [(1, .sl (.int .i64) w), (2, .bp 2 0), (5, .sl (.sl (.int .i64)) v0_3.1), (7, .cv (.slice none 0 0)), (32, .sl (.sl (.int .i64)) v0_3.1), (33, .int .i64 (v0_3.1.length : Int)), (34, .int .i64 0)] [(2, .box 24 [.int .i64 l.1, .sl (.pair (.int .i64) (.int .i64)) l.2])] ?_
    refine AW.block ?_
    obtain ⟨rv14, hw10, ho11⟩ := Option.bind_eq_some_iff.1 h
    refine AW.loopO (lineallaw03_WeaveLayers_b1 l v0_3) (fun st1 => ⟨fr [(1, .sl (.int .i64) w), (2, .bp 2 0), (5, .sl (.sl (.int .i64)) v0_3.1), (7, .own 108), (32, .sl (.sl (.int .i64)) v0_3.1), (33, .int .i64 (v0_3.1.length : Int)), (34, .int .i64 st1.2)], hpGet [(2, .box 24 [.int .i64 l.1, .sl (.pair (.int .i64) (.int .i64)) l.2]), (108, .arr 3 (.int .i64) st1.1)], gt⟩) ([], 0) hw10 (zL [] [108] []) ?_
    as_aux_lemma =>
     intro st1 x13 h hd12
     unfold lineallaw03_WeaveLayers_b1 at h
     refine zo ?_
     refine zB [(1, .sl (.int .i64) w), (2, .bp 2 0), (5, .sl (.sl (.int .i64)) v0_3.1), (7, .own 108), (32, .sl (.sl (.int .i64)) v0_3.1), (33, .int .i64 (v0_3.1.length : Int)), (34, .int .i64 st1.2), (35, .bool (decide (st1.2 < (v0_3.1.length : Int))))] [(2, .box 24 [.int .i64 l.1, .sl (.pair (.int .i64) (.int .i64)) l.2]), (108, .arr 3 (.int .i64) st1.1)] ?_
     refine AW.seq ?_
     refine zQ h (fun hb15 h => ?_) (fun hb15 h => ?_)
     ·refine zk ?_
      refine AW.have1 (fun _ : Unit => lineallaw03_WeaveLayers_k2 v0_3 st1 = some x13) (fun _ => ⟨fr [(1, .sl (.int .i64) w), (2, .bp 2 0), (5, .sl (.sl (.int .i64)) v0_3.1), (7, .own 108), (32, .sl (.sl (.int .i64)) v0_3.1), (33, .int .i64 (v0_3.1.length : Int)), (34, .int .i64 st1.2)], hpGet [(2, .box 24 [.int .i64 l.1, .sl (.pair (.int .i64) (.int .i64)) l.2]), (108, .arr 3 (.int .i64) (st1.1 ++ (v0_3.1.getD st1.2.toNat [])))], gt⟩) (fun _ h => ?_) (fun hk_lineallaw03_WeaveLayers_k2 => ?_)
      ·as_aux_lemma =>
        unfold lineallaw03_WeaveLayers_k2 at h
        refine AW.ops ?_
        obtain ⟨c16, h⟩ := ck_some.1 h
        refine zA [(1, .sl (.int .i64) w), (2, .bp 2 0), (5, .sl (.sl (.int .i64)) v0_3.1), (7, .own 108), (32, .sl (.sl (.int .i64)) v0_3.1), (33, .int .i64 (v0_3.1.length : Int)), (34, .int .i64 (st1.2 + 1))] [(2, .box 24 [.int .i64 l.1, .sl (.pair (.int .i64) (.int .i64)) l.2]), (108, .arr 3 (.int .i64) (st1.1 ++ (v0_3.1.getD st1.2.toNat [])))] ?_
        obtain rfl := Option.some.inj h
        exact ⟨_, rfl, zL [] [] []⟩
      ·refine AW.seq ?_
       refine AW.block ?_
       refine zo ?_
       obtain ⟨c17, h⟩ := ck_some.1 h
       obtain ⟨c18, h⟩ := ck_some.1 h
       refine zB [(1, .sl (.int .i64) w), (2, .bp 2 0), (5, .sl (.sl (.int .i64)) v0_3.1), (7, .own 108), (8, .int .i64 st1.2), (9, .sl (.int .i64) (v0_3.1.getD st1.2.toNat [])), (32, .sl (.sl (.int .i64)) v0_3.1), (33, .int .i64 (v0_3.1.length : Int)), (34, .int .i64 st1.2)] [(2, .box 24 [.int .i64 l.1, .sl (.pair (.int .i64) (.int .i64)) l.2]), (108, .arr 3 (.int .i64) st1.1)] ?_
       refine AW.seq ?_
       refine zo ?_
       refine zS 4 [(1, .sl (.int .i64) w), (2, .bp 2 0), (5, .sl (.sl (.int .i64)) v0_3.1), (7, .own 108), (8, .int .i64 st1.2), (9, .sl (.int .i64) (v0_3.1.getD st1.2.toNat [])), (32, .sl (.sl (.int .i64)) v0_3.1), (33, .int .i64 (v0_3.1.length : Int)), (34, .int .i64 st1.2), (42, .bool (decide (((v0_3.1.getD st1.2.toNat []).length : Int) = 0)))] [(2, .box 24 [.int .i64 l.1, .sl (.pair (.int .i64) (.int .i64)) l.2]), (108, .arr 3 (.int .i64) st1.1)] ?_
       rcases zI h with ⟨hb19, h⟩ | ⟨hb19, h⟩
       ·refine zS 4 [(1, .sl (.int .i64) w), (2, .bp 2 0), (5, .sl (.sl (.int .i64)) v0_3.1), (7, .own 108), (8, .int .i64 st1.2), (9, .sl (.int .i64) (v0_3.1.getD st1.2.toNat [])), (32, .sl (.sl (.int .i64)) v0_3.1), (33, .int .i64 (v0_3.1.length : Int)), (34, .int .i64 st1.2), (42, .bool true), (46, .cv (undef))] [(2, .box 24 [.int .i64 l.1, .sl (.pair (.int .i64) (.int .i64)) l.2]), (108, .arr 3 (.int .i64) st1.1)] ?_
        refine zB [(1, .sl (.int .i64) w), (2, .bp 2 0), (5, .sl (.sl (.int .i64)) v0_3.1), (7, .own 108), (8, .int .i64 st1.2), (9, .sl (.int .i64) (v0_3.1.getD st1.2.toNat [])), (32, .sl (.sl (.int .i64)) v0_3.1), (33, .int .i64 (v0_3.1.length : Int)), (34, .int .i64 st1.2), (47, .bool true)] [(2, .box 24 [.int .i64 l.1, .sl (.pair (.int .i64) (.int .i64)) l.2]), (108, .arr 3 (.int .i64) st1.1)] ?_
        refine AW.cond (b := true) rfl (fun _ => ?_) (fun hb20 => by cases hb20)
        refine zo ?_
        refine zB [(4, .bool false)] [] ?_
        refine zr ?_
        refine ablock_r ?_
        refine athen_r ?_
        obtain rfl := Option.some.inj h
        rw [← hd12 _ rfl] at ho11
        have h := ho11
        try simp only at h
        refine athen_r ?_
        refine ablock_r ?_
        refine athen_r ?_
        obtain rfl := Option.some.inj h
        exact zR [] [] []
       ·refine zS 2 [(1, .sl (.int .i64) w), (2, .bp 2 0), (5, .sl (.sl (.int .i64)) v0_3.1), (7, .own 108), (8, .int .i64 st1.2), (9, .sl (.int .i64) (v0_3.1.getD st1.2.toNat [])), (32, .sl (.sl (.int .i64)) v0_3.1), (33, .int .i64 (v0_3.1.length : Int)), (34, .int .i64 st1.2), (42, .bool false), (43, .agg [.int .i64 l.1, .sl (.pair (.int .i64) (.int .i64)) l.2]), (44, .sl (.int .i64) (v0_3.1.getD st1.2.toNat []))] [(2, .box 24 [.int .i64 l.1, .sl (.pair (.int .i64) (.int .i64)) l.2]), (108, .arr 3 (.int .i64) st1.1)] ?_
        obtain ⟨v0_4, hv21, h⟩ := Option.bind_eq_some_iff.1 h
        refine zG [] [] (hc_linealref03_IsWord l (v0_3.1.getD st1.2.toNat []) hv21) [(1, .sl (.int .i64) w), (2, .bp 2 0), (5, .sl (.sl (.int .i64)) v0_3.1), (7, .own 108), (8, .int .i64 st1.2), (9, .sl (.int .i64) (v0_3.1.getD st1.2.toNat [])), (32, .sl (.sl (.int .i64)) v0_3.1), (33, .int .i64 (v0_3.1.length : Int)), (34, .int .i64 st1.2), (42, .bool false), (45, .bool v0_4)] [(2, .box 24 [.int .i64 l.1, .sl (.pair (.int .i64) (.int .i64)) l.2]), (108, .arr 3 (.int .i64) st1.1)] ?_
        refine zB [(1, .sl (.int .i64) w), (2, .bp 2 0), (5, .sl (.sl (.int .i64)) v0_3.1), (7, .own 108), (8, .int .i64 st1.2), (9, .sl (.int .i64) (v0_3.1.getD st1.2.toNat [])), (32, .sl (.sl (.int .i64)) v0_3.1), (33, .int .i64 (v0_3.1.length : Int)), (34, .int .i64 st1.2), (47, .bool (!v0_4))] [(2, .box 24 [.int .i64 l.1, .sl (.pair (.int .i64) (.int .i64)) l.2]), (108, .arr 3 (.int .i64) st1.1)] ?_
        refine zQ h (fun hb22 h => ?_) (fun hb22 h => ?_)
        ·refine zo ?_
         refine zB [(4, .bool false)] [] ?_
         refine zr ?_
         refine ablock_r ?_
         refine athen_r ?_
         obtain rfl := Option.some.inj h
         rw [← hd12 _ rfl] at ho11
         have h := ho11
         try simp only at h
         refine athen_r ?_
         refine ablock_r ?_
         refine athen_r ?_
         obtain rfl := Option.some.inj h
         exact zR [] [] []
        ·refine zk ?_
         refine AW.have1 (fun _ : Unit => lineallaw03_WeaveLayers_k3 v0_3 st1 = some x13) (fun _ => ⟨fr [(1, .sl (.int .i64) w), (2, .bp 2 0), (5, .sl (.sl (.int .i64)) v0_3.1), (7, .own 108), (9, .sl (.int .i64) (v0_3.1.getD st1.2.toNat [])), (32, .sl (.sl (.int .i64)) v0_3.1), (33, .int .i64 (v0_3.1.length : Int)), (34, .int .i64 st1.2)], hpGet [(2, .box 24 [.int .i64 l.1, .sl (.pair (.int .i64) (.int .i64)) l.2]), (108, .arr 3 (.int .i64) st1.1)], gt⟩) (fun _ h => ?_) (fun hk_lineallaw03_WeaveLayers_k3 => ?_)
         ·as_aux_lemma =>
           unfold lineallaw03_WeaveLayers_k3 at h
           refine AW.ops ?_
           obtain ⟨c23, h⟩ := ck_some.1 h
           refine zA [(1, .sl (.int .i64) w), (2, .bp 2 0), (5, .sl (.sl (.int .i64)) v0_3.1), (7, .own 108), (32, .sl (.sl (.int .i64)) v0_3.1), (33, .int .i64 (v0_3.1.length : Int)), (34, .int .i64 st1.2)] [(2, .box 24 [.int .i64 l.1, .sl (.pair (.int .i64) (.int .i64)) l.2]), (108, .arr 3 (.int .i64) (st1.1 ++ (v0_3.1.getD st1.2.toNat [])))] ?_
           refine ablock_n ?_
           refine athen_n ?_
           exact AW.weaken (zL [] [] []) (hk_lineallaw03_WeaveLayers_k2 () h)
         ·refine AW.seq ?_
          refine zo ?_
          refine zB [(1, .sl (.int .i64) w), (2, .bp 2 0), (5, .sl (.sl (.int .i64)) v0_3.1), (7, .own 108), (8, .int .i64 st1.2), (9, .sl (.int .i64) (v0_3.1.getD st1.2.toNat [])), (32, .sl (.sl (.int .i64)) v0_3.1), (33, .int .i64 (v0_3.1.length : Int)), (34, .int .i64 st1.2), (48, .sl (.int .i64) (v0_3.1.getD st1.2.toNat [])), (49, .int .i64 ((v0_3.1.getD st1.2.toNat []).length : Int)), (50, .int .i64 0)] [(2, .box 24 [.int .i64 l.1, .sl (.pair (.int .i64) (.int .i64)) l.2]), (108, .arr 3 (.int .i64) st1.1)] ?_
          refine AW.block ?_
          obtain ⟨rv28, hw24, ho25⟩ := Option.bind_eq_some_iff.1 h
          refine AW.loopO (lineallaw03_WeaveLayers_b2 l v0_3 st1) (fun st2 => ⟨fr [(1, .sl (.int .i64) w), (2, .bp 2 0), (5, .sl (.sl (.int .i64)) v0_3.1), (7, .own 108), (8, .int .i64 st1.2), (9, .sl (.int .i64) (v0_3.1.getD st1.2.toNat [])), (32, .sl (.sl (.int .i64)) v0_3.1), (33, .int .i64 (v0_3.1.length : Int)), (34, .int .i64 st1.2), (48, .sl (.int .i64) (v0_3.1.getD st1.2.toNat [])), (49, .int .i64 ((v0_3.1.getD st1.2.toNat []).length : Int)), (50, .int .i64 st2)], hpGet [(2, .box 24 [.int .i64 l.1, .sl (.pair (.int .i64) (.int .i64)) l.2]), (108, .arr 3 (.int .i64) st1.1)], gt⟩) 0 hw24 (zL [] [] []) ?_
          as_aux_lemma =>
           intro st2 x27 h hd26
           unfold lineallaw03_WeaveLayers_b2 at h
           refine zo ?_
           refine zB [(1, .sl (.int .i64) w), (2, .bp 2 0), (5, .sl (.sl (.int .i64)) v0_3.1), (7, .own 108), (8, .int .i64 st1.2), (9, .sl (.int .i64) (v0_3.1.getD st1.2.toNat [])), (32, .sl (.sl (.int .i64)) v0_3.1), (33, .int .i64 (v0_3.1.length : Int)), (34, .int .i64 st1.2), (48, .sl (.int .i64) (v0_3.1.getD st1.2.toNat [])), (49, .int .i64 ((v0_3.1.getD st1.2.toNat []).length : Int)), (50, .int .i64 st2), (51, .bool (decide (st2 < ((v0_3.1.getD st1.2.toNat []).length : Int))))] [(2, .box 24 [.int .i64 l.1, .sl (.pair (.int .i64) (.int .i64)) l.2]), (108, .arr 3 (.int .i64) st1.1)] ?_
           refine AW.seq ?_
           refine zQ h (fun hb29 h => ?_) (fun hb29 h => ?_)
           ·refine zk ?_
            refine AW.have1 (fun _ : Unit => lineallaw03_WeaveLayers_k4 st2 = some x27) (fun _ => ⟨fr [(1, .sl (.int .i64) w), (2, .bp 2 0), (5, .sl (.sl (.int .i64)) v0_3.1), (7, .own 108), (8, .int .i64 st1.2), (9, .sl (.int .i64) (v0_3.1.getD st1.2.toNat [])), (32, .sl (.sl (.int .i64)) v0_3.1), (33, .int .i64 (v0_3.1.length : Int)), (34, .int .i64 st1.2), (48, .sl (.int .i64) (v0_3.1.getD st1.2.toNat [])), (49, .int .i64 ((v0_3.1.getD st1.2.toNat []).length : Int)), (50, .int .i64 st2)], hpGet [(2, .box 24 [.int .i64 l.1, .sl (.pair (.int .i64) (.int .i64)) l.2]), (108, .arr 3 (.int .i64) st1.1)], gt⟩) (fun _ h => ?_) (fun hk_lineallaw03_WeaveLayers_k4 => ?_)
            ·as_aux_lemma =>
              unfold lineallaw03_WeaveLayers_k4 at h
              refine AW.ops ?_
              obtain ⟨c30, h⟩ := ck_some.1 h
              refine zA [(1, .sl (.int .i64) w), (2, .bp 2 0), (5, .sl (.sl (.int .i64)) v0_3.1), (7, .own 108), (8, .int .i64 st1.2), (9, .sl (.int .i64) (v0_3.1.getD st1.2.toNat [])), (32, .sl (.sl (.int .i64)) v0_3.1), (33, .int .i64 (v0_3.1.length : Int)), (34, .int .i64 st1.2), (48, .sl (.int .i64) (v0_3.1.getD st1.2.toNat [])), (49, .int .i64 ((v0_3.1.getD st1.2.toNat []).length : Int)), (50, .int .i64 (st2 + 1))] [(2, .box 24 [.int .i64 l.1, .sl (.pair (.int .i64) (.int .i64)) l.2]), (108, .arr 3 (.int .i64) st1.1)] ?_
              obtain rfl := Option.some.inj h
              exact ⟨_, rfl, zL [] [] []⟩
            ·refine AW.seq ?_
             refine AW.block ?_
             refine zo ?_
             obtain ⟨c31, h⟩ := ck_some.1 h
             obtain ⟨c32, h⟩ := ck_some.1 h
             refine zB [(1, .sl (.int .i64) w), (2, .bp 2 0), (5, .sl (.sl (.int .i64)) v0_3.1), (7, .own 108), (8, .int .i64 st1.2), (9, .sl (.int .i64) (v0_3.1.getD st1.2.toNat [])), (10, .int .i64 st2), (11, .int .i64 ((v0_3.1.getD st1.2.toNat []).getD st2.toNat 0)), (32, .sl (.sl (.int .i64)) v0_3.1), (33, .int .i64 (v0_3.1.length : Int)), (34, .int .i64 st1.2), (48, .sl (.int .i64) (v0_3.1.getD st1.2.toNat [])), (49, .int .i64 ((v0_3.1.getD st1.2.toNat []).length : Int)), (50, .int .i64 st2)] [(2, .box 24 [.int .i64 l.1, .sl (.pair (.int .i64) (.int .i64)) l.2]), (108, .arr 3 (.int .i64) st1.1)] ?_
             refine zo ?_
             refine zB [(1, .sl (.int .i64) w), (2, .bp 2 0), (5, .sl (.sl (.int .i64)) v0_3.1), (7, .own 108), (8, .int .i64 st1.2), (9, .sl (.int .i64) (v0_3.1.getD st1.2.toNat [])), (10, .int .i64 st2), (11, .int .i64 ((v0_3.1.getD st1.2.toNat []).getD st2.toNat 0)), (12, .bool (decide (st1.2 = 0))), (32, .sl (.sl (.int .i64)) v0_3.1), (33, .int .i64 (v0_3.1.length : Int)), (34, .int .i64 st1.2), (48, .sl (.int .i64) (v0_3.1.getD st1.2.toNat [])), (49, .int .i64 ((v0_3.1.getD st1.2.toNat []).length : Int)), (50, .int .i64 st2)] [(2, .box 24 [.int .i64 l.1, .sl (.pair (.int .i64) (.int .i64)) l.2]), (108, .arr 3 (.int .i64) st1.1)] ?_
             refine AW.have1 (fun b5 : Bool => lineallaw03_WeaveLayers_k5 l v0_3 st1 st2 b5 = some x27) (fun b5 => ⟨fr [(1, .sl (.int .i64) w), (2, .bp 2 0), (5, .sl (.sl (.int .i64)) v0_3.1), (7, .own 108), (8, .int .i64 st1.2), (9, .sl (.int .i64) (v0_3.1.getD st1.2.toNat [])), (10, .int .i64 st2), (11, .int .i64 ((v0_3.1.getD st1.2.toNat []).getD st2.toNat 0)), (12, .bool b5), (32, .sl (.sl (.int .i64)) v0_3.1), (33, .int .i64 (v0_3.1.length : Int)), (34, .int .i64 st1.2), (48, .sl (.int .i64) (v0_3.1.getD st1.2.toNat [])), (49, .int .i64 ((v0_3.1.getD st1.2.toNat []).length : Int)), (50, .int .i64 st2)], hpGet [(2, .box 24 [.int .i64 l.1, .sl (.pair (.int .i64) (.int .i64)) l.2]), (108, .arr 3 (.int .i64) st1.1)], gt⟩) (fun b5 h => ?_) (fun hk_lineallaw03_WeaveLayers_k5 => ?_)
             ·as_aux_lemma =>
               unfold lineallaw03_WeaveLayers_k5 at h
               refine AW.have2 (fun _ : Unit => lineallaw03_WeaveLayers_k6 l v0_3 st1 st2 = some x27) (fun _ => ⟨fr [(1, .sl (.int .i64) w), (2, .bp 2 0), (5, .sl (.sl (.int .i64)) v0_3.1), (7, .own 108), (8, .int .i64 st1.2), (9, .sl (.int .i64) (v0_3.1.getD st1.2.toNat [])), (11, .int .i64 ((v0_3.1.getD st1.2.toNat []).getD st2.toNat 0)), (32, .sl (.sl (.int .i64)) v0_3.1), (33, .int .i64 (v0_3.1.length : Int)), (34, .int .i64 st1.2), (48, .sl (.int .i64) (v0_3.1.getD st1.2.toNat [])), (49, .int .i64 ((v0_3.1.getD st1.2.toNat []).length : Int)), (50, .int .i64 st2), (94, .sl (.int .i64) ((v0_3.1.getD st1.2.toNat []).take st2.toNat)), (95, .int .i64 (((v0_3.1.getD st1.2.toNat []).take st2.toNat).length : Int)), (96, .int .i64 0)], hpGet [(2, .box 24 [.int .i64 l.1, .sl (.pair (.int .i64) (.int .i64)) l.2]), (108, .arr 3 (.int .i64) st1.1)], gt⟩) (fun _ h => ?_) (fun hk_lineallaw03_WeaveLayers_k6 => ?_)
               ·as_aux_lemma =>
                 unfold lineallaw03_WeaveLayers_k6 at h
                 refine AW.block ?_
                 obtain ⟨rv37, hw33, ho34⟩ := Option.bind_eq_some_iff.1 h
                 refine AW.loopO (lineallaw03_WeaveLayers_b4 l v0_3 st1 st2) (fun st4 => ⟨fr [(1, .sl (.int .i64) w), (2, .bp 2 0), (5, .sl (.sl (.int .i64)) v0_3.1), (7, .own 108), (8, .int .i64 st1.2), (9, .sl (.int .i64) (v0_3.1.getD st1.2.toNat [])), (11, .int .i64 ((v0_3.1.getD st1.2.toNat []).getD st2.toNat 0)), (32, .sl (.sl (.int .i64)) v0_3.1), (33, .int .i64 (v0_3.1.length : Int)), (34, .int .i64 st1.2), (48, .sl (.int .i64) (v0_3.1.getD st1.2.toNat [])), (49, .int .i64 ((v0_3.1.getD st1.2.toNat []).length : Int)), (50, .int .i64 st2), (94, .sl (.int .i64) ((v0_3.1.getD st1.2.toNat []).take st2.toNat)), (95, .int .i64 (((v0_3.1.getD st1.2.toNat []).take st2.toNat).length : Int)), (96, .int .i64 st4)], hpGet [(2, .box 24 [.int .i64 l.1, .sl (.pair (.int .i64) (.int .i64)) l.2]), (108, .arr 3 (.int .i64) st1.1)], gt⟩) 0 hw33 (zL [] [] []) ?_
                 as_aux_lemma =>
                  intro st4 x36 h hd35
                  unfold lineallaw03_WeaveLayers_b4 at h
                  refine zo ?_
                  refine zB [(1, .sl (.int .i64) w), (2, .bp 2 0), (5, .sl (.sl (.int .i64)) v0_3.1), (7, .own 108), (8, .int .i64 st1.2), (9, .sl (.int .i64) (v0_3.1.getD st1.2.toNat [])), (11, .int .i64 ((v0_3.1.getD st1.2.toNat []).getD st2.toNat 0)), (32, .sl (.sl (.int .i64)) v0_3.1), (33, .int .i64 (v0_3.1.length : Int)), (34, .int .i64 st1.2), (48, .sl (.int .i64) (v0_3.1.getD st1.2.toNat [])), (49, .int .i64 ((v0_3.1.getD st1.2.toNat []).length : Int)), (50, .int .i64 st2), (94, .sl (.int .i64) ((v0_3.1.getD st1.2.toNat []).take st2.toNat)), (95, .int .i64 (((v0_3.1.getD st1.2.toNat []).take st2.toNat).length : Int)), (96, .int .i64 st4), (97, .bool (decide (st4 < (((v0_3.1.getD st1.2.toNat []).take st2.toNat).length : Int))))] [(2, .box 24 [.int .i64 l.1, .sl (.pair (.int .i64) (.int .i64)) l.2]), (108, .arr 3 (.int .i64) st1.1)] ?_
                  refine AW.seq ?_
                  refine zQ h (fun hb38 h => ?_) (fun hb38 h => ?_)
                  ·refine zk ?_
                   refine AW.seq ?_
                   refine AW.block ?_
                   refine zo ?_
                   obtain ⟨c39, h⟩ := ck_some.1 h
                   obtain ⟨c40, h⟩ := ck_some.1 h
                   refine zB [(1, .sl (.int .i64) w), (2, .bp 2 0), (5, .sl (.sl (.int .i64)) v0_3.1), (7, .own 108), (8, .int .i64 st1.2), (9, .sl (.int .i64) (v0_3.1.getD st1.2.toNat [])), (11, .int .i64 ((v0_3.1.getD st1.2.toNat []).getD st2.toNat 0)), (16, .int .i64 (((v0_3.1.getD st1.2.toNat []).take st2.toNat).getD st4.toNat 0)), (32, .sl (.sl (.int .i64)) v0_3.1), (33, .int .i64 (v0_3.1.length : Int)), (34, .int .i64 st1.2), (48, .sl (.int .i64) (v0_3.1.getD st1.2.toNat [])), (49, .int .i64 ((v0_3.1.getD st1.2.toNat []).length : Int)), (50, .int .i64 st2), (94, .sl (.int .i64) ((v0_3.1.getD st1.2.toNat []).take st2.toNat)), (95, .int .i64 (((v0_3.1.getD st1.2.toNat []).take st2.toNat).length : Int)), (96, .int .i64 st4)] [(2, .box 24 [.int .i64 l.1, .sl (.pair (.int .i64) (.int .i64)) l.2]), (108, .arr 3 (.int .i64) st1.1)] ?_
                   refine zo ?_
                   refine zS 3 [(1, .sl (.int .i64) w), (2, .bp 2 0), (5, .sl (.sl (.int .i64)) v0_3.1), (7, .own 108), (8, .int .i64 st1.2), (9, .sl (.int .i64) (v0_3.1.getD st1.2.toNat [])), (11, .int .i64 ((v0_3.1.getD st1.2.toNat []).getD st2.toNat 0)), (32, .sl (.sl (.int .i64)) v0_3.1), (33, .int .i64 (v0_3.1.length : Int)), (34, .int .i64 st1.2), (48, .sl (.int .i64) (v0_3.1.getD st1.2.toNat [])), (49, .int .i64 ((v0_3.1.getD st1.2.toNat []).length : Int)), (50, .int .i64 st2), (94, .sl (.int .i64) ((v0_3.1.getD st1.2.toNat []).take st2.toNat)), (95, .int .i64 (((v0_3.1.getD st1.2.toNat []).take st2.toNat).length : Int)), (96, .int .i64 st4), (100, .agg [.int .i64 l.1, .sl (.pair (.int .i64) (.int .i64)) l.2]), (101, .int .i64 ((v0_3.1.getD st1.2.toNat []).getD st2.toNat 0)), (102, .int .i64 (((v0_3.1.getD st1.2.toNat []).take st2.toNat).getD st4.toNat 0))] [(2, .box 24 [.int .i64 l.1, .sl (.pair (.int .i64) (.int .i64)) l.2]), (108, .arr 3 (.int .i64) st1.1)] ?_
                   obtain ⟨v0_6, hv41, h⟩ := Option.bind_eq_some_iff.1 h
                   refine zC [] [] (hc_lineallaw03_depends l ((v0_3.1.getD st1.2.toNat []).getD st2.toNat 0) (((v0_3.1.getD st1.2.toNat []).take st2.toNat).getD st4.toNat 0) hv41) [(1, .sl (.int .i64) w), (2, .bp 2 0), (5, .sl (.sl (.int .i64)) v0_3.1), (7, .own 108), (8, .int .i64 st1.2), (9, .sl (.int .i64) (v0_3.1.getD st1.2.toNat [])), (11, .int .i64 ((v0_3.1.getD st1.2.toNat []).getD st2.toNat 0)), (32, .sl (.sl (.int .i64)) v0_3.1), (33, .int .i64 (v0_3.1.length : Int)), (34, .int .i64 st1.2), (48, .sl (.int .i64) (v0_3.1.getD st1.2.toNat [])), (49, .int .i64 ((v0_3.1.getD st1.2.toNat []).length : Int)), (50, .int .i64 st2), (94, .sl (.int .i64) ((v0_3.1.getD st1.2.toNat []).take st2.toNat)), (95, .int .i64 (((v0_3.1.getD st1.2.toNat []).take st2.toNat).length : Int)), (96, .int .i64 st4), (103, .bool v0_6)] [(2, .box 24 [.int .i64 l.1, .sl (.pair (.int .i64) (.int .i64)) l.2]), (108, .arr 3 (.int .i64) st1.1)] ?_
                   refine zB [(1, .sl (.int .i64) w), (2, .bp 2 0), (5, .sl (.sl (.int .i64)) v0_3.1), (7, .own 108), (8, .int .i64 st1.2), (9, .sl (.int .i64) (v0_3.1.getD st1.2.toNat [])), (11, .int .i64 ((v0_3.1.getD st1.2.toNat []).getD st2.toNat 0)), (32, .sl (.sl (.int .i64)) v0_3.1), (33, .int .i64 (v0_3.1.length : Int)), (34, .int .i64 st1.2), (48, .sl (.int .i64) (v0_3.1.getD st1.2.toNat [])), (49, .int .i64 ((v0_3.1.getD st1.2.toNat []).length : Int)), (50, .int .i64 st2), (94, .sl (.int .i64) ((v0_3.1.getD st1.2.toNat []).take st2.toNat)), (95, .int .i64 (((v0_3.1.getD st1.2.toNat []).take st2.toNat).length : Int)), (96, .int .i64 st4), (103, .bool v0_6)] [(2, .box 24 [.int .i64 l.1, .sl (.pair (.int .i64) (.int .i64)) l.2]), (108, .arr 3 (.int .i64) st1.1)] ?_
                   refine zQ h (fun hb42 h => ?_) (fun hb42 h => ?_)
                   ·refine zo ?_
                    refine zB [(4, .bool false)] [] ?_
                    refine AW.ret ?_
                    refine ablock_r ?_
                    refine athen_r ?_
                    obtain rfl := Option.some.inj h
                    rw [← hd35 _ rfl] at ho34
                    have h := ho34
                    try simp only at h
                    refine athen_r ?_
                    refine ablock_r ?_
                    refine ablock_r ?_
                    refine athen_r ?_
                    obtain rfl := Option.some.inj h
                    rw [← hd26 _ rfl] at ho25
                    have h := ho25
                    try simp only at h
                    refine athen_r ?_
                    refine ablock_r ?_
                    refine athen_r ?_
                    refine ablock_r ?_
                    refine athen_r ?_
                    obtain rfl := Option.some.inj h
                    rw [← hd12 _ rfl] at ho11
                    have h := ho11
                    try simp only at h
                    refine athen_r ?_
                    refine ablock_r ?_
                    refine athen_r ?_
                    obtain rfl := Option.some.inj h
                    exact zR [] [] []
                   ·refine zm ?_
                    refine athen_n ?_
                    refine AW.ops ?_
                    obtain ⟨c43, h⟩ := ck_some.1 h
                    refine zA [(1, .sl (.int .i64) w), (2, .bp 2 0), (5, .sl (.sl (.int .i64)) v0_3.1), (7, .own 108), (8, .int .i64 st1.2), (9, .sl (.int .i64) (v0_3.1.getD st1.2.toNat [])), (11, .int .i64 ((v0_3.1.getD st1.2.toNat []).getD st2.toNat 0)), (32, .sl (.sl (.int .i64)) v0_3.1), (33, .int .i64 (v0_3.1.length : Int)), (34, .int .i64 st1.2), (48, .sl (.int .i64) (v0_3.1.getD st1.2.toNat [])), (49, .int .i64 ((v0_3.1.getD st1.2.toNat []).length : Int)), (50, .int .i64 st2), (94, .sl (.int .i64) ((v0_3.1.getD st1.2.toNat []).take st2.toNat)), (95, .int .i64 (((v0_3.1.getD st1.2.toNat []).take st2.toNat).length : Int)), (96, .int .i64 (st4 + 1))] [(2, .box 24 [.int .i64 l.1, .sl (.pair (.int .i64) (.int .i64)) l.2]), (108, .arr 3 (.int .i64) st1.1)] ?_
                    obtain rfl := Option.some.inj h
                    exact ⟨_, rfl, zL [] [] []⟩
                  ·refine AW.exit ?_
                   refine athen_e ?_
                   obtain rfl := Option.some.inj h
                   rw [← hd35 _ rfl] at ho34
                   have h := ho34
                   try simp only at h
                   refine athen_e ?_
                   refine ablock_s ?_
                   refine ablock_n ?_
                   refine athen_n ?_
                   exact AW.weaken (zL [] [] []) (hk_lineallaw03_WeaveLayers_k4 () h)
               ·refine AW.seq ?_
                refine zo ?_
                refine zS 3 [(1, .sl (.int .i64) w), (2, .bp 2 0), (5, .sl (.sl (.int .i64)) v0_3.1), (7, .own 108), (8, .int .i64 st1.2), (9, .sl (.int .i64) (v0_3.1.getD st1.2.toNat [])), (10, .int .i64 st2), (11, .int .i64 ((v0_3.1.getD st1.2.toNat []).getD st2.toNat 0)), (32, .sl (.sl (.int .i64)) v0_3.1), (33, .int .i64 (v0_3.1.length : Int)), (34, .int .i64 st1.2), (48, .sl (.int .i64) (v0_3.1.getD st1.2.toNat [])), (49, .int .i64 ((v0_3.1.getD st1.2.toNat []).length : Int)), (50, .int .i64 st2), (79, .bool (!b5))] [(2, .box 24 [.int .i64 l.1, .sl (.pair (.int .i64) (.int .i64)) l.2]), (108, .arr 3 (.int .i64) st1.1)] ?_
                rcases zI h with ⟨hb44, h⟩ | ⟨hb44, h⟩
                ·refine zS 4 [(1, .sl (.int .i64) w), (2, .bp 2 0), (5, .sl (.sl (.int .i64)) v0_3.1), (7, .own 108), (8, .int .i64 st1.2), (9, .sl (.int .i64) (v0_3.1.getD st1.2.toNat [])), (10, .int .i64 st2), (11, .int .i64 ((v0_3.1.getD st1.2.toNat []).getD st2.toNat 0)), (32, .sl (.sl (.int .i64)) v0_3.1), (33, .int .i64 (v0_3.1.length : Int)), (34, .int .i64 st1.2), (48, .sl (.int .i64) (v0_3.1.getD st1.2.toNat [])), (49, .int .i64 ((v0_3.1.getD st1.2.toNat []).length : Int)), (50, .int .i64 st2), (79, .bool true), (82, .cv (undef)), (83, .cv (undef))] [(2, .box 24 [.int .i64 l.1, .sl (.pair (.int .i64) (.int .i64)) l.2]), (108, .arr 3 (.int .i64) st1.1)] ?_
                 refine zS 4 [(1, .sl (.int .i64) w), (2, .bp 2 0), (5, .sl (.sl (.int .i64)) v0_3.1), (7, .own 108), (8, .int .i64 st1.2), (9, .sl (.int .i64) (v0_3.1.getD st1.2.toNat [])), (10, .int .i64 st2), (11, .int .i64 ((v0_3.1.getD st1.2.toNat []).getD st2.toNat 0)), (32, .sl (.sl (.int .i64)) v0_3.1), (33, .int .i64 (v0_3.1.length : Int)), (34, .int .i64 st1.2), (48, .sl (.int .i64) (v0_3.1.getD st1.2.toNat [])), (49, .int .i64 ((v0_3.1.getD st1.2.toNat []).length : Int)), (50, .int .i64 st2), (79, .bool true), (82, .cv (undef)), (87, .cv (undef))] [(2, .box 24 [.int .i64 l.1, .sl (.pair (.int .i64) (.int .i64)) l.2]), (108, .arr 3 (.int .i64) st1.1)] ?_
                 refine zB [(1, .sl (.int .i64) w), (2, .bp 2 0), (5, .sl (.sl (.int .i64)) v0_3.1), (7, .own 108), (8, .int .i64 st1.2), (9, .sl (.int .i64) (v0_3.1.getD st1.2.toNat [])), (10, .int .i64 st2), (11, .int .i64 ((v0_3.1.getD st1.2.toNat []).getD st2.toNat 0)), (32, .sl (.sl (.int .i64)) v0_3.1), (33, .int .i64 (v0_3.1.length : Int)), (34, .int .i64 st1.2), (48, .sl (.int .i64) (v0_3.1.getD st1.2.toNat [])), (49, .int .i64 ((v0_3.1.getD st1.2.toNat []).length : Int)), (50, .int .i64 st2), (91, .bool true)] [(2, .box 24 [.int .i64 l.1, .sl (.pair (.int .i64) (.int .i64)) l.2]), (108, .arr 3 (.int .i64) st1.1)] ?_
                 refine AW.cond (b := true) rfl (fun _ => ?_) (fun hb45 => by cases hb45)
                 refine zo ?_
                 refine zB [(4, .bool false)] [] ?_
                 refine zr ?_
                 refine ablock_r ?_
                 refine athen_r ?_
                 obtain rfl := Option.some.inj h
                 rw [← hd26 _ rfl] at ho25
                 have h := ho25
                 try simp only at h
                 refine athen_r ?_
                 refine ablock_r ?_
                 refine athen_r ?_
                 refine ablock_r ?_
                 refine athen_r ?_
                 obtain rfl := Option.some.inj h
                 rw [← hd12 _ rfl] at ho11
                 have h := ho11
                 try simp only at h
                 refine athen_r ?_
                 refine ablock_r ?_
                 refine athen_r ?_
                 obtain rfl := Option.some.inj h
                 exact zR [] [] []
                ·refine zS 3 [(1, .sl (.int .i64) w), (2, .bp 2 0), (5, .sl (.sl (.int .i64)) v0_3.1), (7, .own 108), (8, .int .i64 st1.2), (9, .sl (.int .i64) (v0_3.1.getD st1.2.toNat [])), (10, .int .i64 st2), (11, .int .i64 ((v0_3.1.getD st1.2.toNat []).getD st2.toNat 0)), (32, .sl (.sl (.int .i64)) v0_3.1), (33, .int .i64 (v0_3.1.length : Int)), (34, .int .i64 st1.2), (48, .sl (.int .i64) (v0_3.1.getD st1.2.toNat [])), (49, .int .i64 ((v0_3.1.getD st1.2.toNat []).length : Int)), (50, .int .i64 st2), (79, .bool false), (82, .bool (decide (0 < st2)))] [(2, .box 24 [.int .i64 l.1, .sl (.pair (.int .i64) (.int .i64)) l.2]), (108, .arr 3 (.int .i64) st1.1)] ?_
                 rcases zI h with ⟨hb46, h⟩ | ⟨hb46, h⟩
                 ·obtain ⟨c47, h⟩ := ck_some.1 h
                  obtain ⟨c48, h⟩ := ck_some.1 h
                  obtain ⟨c49, h⟩ := ck_some.1 h
                  refine zS 5 [(1, .sl (.int .i64) w), (2, .bp 2 0), (5, .sl (.sl (.int .i64)) v0_3.1), (7, .own 108), (8, .int .i64 st1.2), (9, .sl (.int .i64) (v0_3.1.getD st1.2.toNat [])), (10, .int .i64 st2), (11, .int .i64 ((v0_3.1.getD st1.2.toNat []).getD st2.toNat 0)), (32, .sl (.sl (.int .i64)) v0_3.1), (33, .int .i64 (v0_3.1.length : Int)), (34, .int .i64 st1.2), (48, .sl (.int .i64) (v0_3.1.getD st1.2.toNat [])), (49, .int .i64 ((v0_3.1.getD st1.2.toNat []).length : Int)), (50, .int .i64 st2), (79, .bool false), (82, .bool true), (87, .int .i64 ((v0_3.1.getD st1.2.toNat []).getD (st2 - 1).toNat 0))] [(2, .box 24 [.int .i64 l.1, .sl (.pair (.int .i64) (.int .i64)) l.2]), (108, .arr 3 (.int .i64) st1.1)] ?_
                  refine zB [(1, .sl (.int .i64) w), (2, .bp 2 0), (5, .sl (.sl (.int .i64)) v0_3.1), (7, .own 108), (8, .int .i64 st1.2), (9, .sl (.int .i64) (v0_3.1.getD st1.2.toNat [])), (10, .int .i64 st2), (11, .int .i64 ((v0_3.1.getD st1.2.toNat []).getD st2.toNat 0)), (32, .sl (.sl (.int .i64)) v0_3.1), (33, .int .i64 (v0_3.1.length : Int)), (34, .int .i64 st1.2), (48, .sl (.int .i64) (v0_3.1.getD st1.2.toNat [])), (49, .int .i64 ((v0_3.1.getD st1.2.toNat []).length : Int)), (50, .int .i64 st2), (91, .bool (decide (((v0_3.1.getD st1.2.toNat []).getD st2.toNat 0) ≤ ((v0_3.1.getD st1.2.toNat []).getD (st2 - 1).toNat 0))))] [(2, .box 24 [.int .i64 l.1, .sl (.pair (.int .i64) (.int .i64)) l.2]), (108, .arr 3 (.int .i64) st1.1)] ?_
                  refine zQ h (fun hb50 h => ?_) (fun hb50 h => ?_)
                  ·refine zo ?_
                   refine zB [(4, .bool false)] [] ?_
                   refine zr ?_
                   refine ablock_r ?_
                   refine athen_r ?_
                   obtain rfl := Option.some.inj h
                   rw [← hd26 _ rfl] at ho25
                   have h := ho25
                   try simp only at h
                   refine athen_r ?_
                   refine ablock_r ?_
                   refine athen_r ?_
                   refine ablock_r ?_
                   refine athen_r ?_
                   obtain rfl := Option.some.inj h
                   rw [← hd12 _ rfl] at ho11
                   have h := ho11
                   try simp only at h
                   refine athen_r ?_
                   refine ablock_r ?_
                   refine athen_r ?_
                   obtain rfl := Option.some.inj h
                   exact zR [] [] []
                  ·refine zk ?_
                   refine zo ?_
                   obtain ⟨c51, h⟩ := ck_some.1 h
                   obtain ⟨c52, h⟩ := ck_some.1 h
                   refine zB [(1, .sl (.int .i64) w), (2, .bp 2 0), (5, .sl (.sl (.int .i64)) v0_3.1), (7, .own 108), (8, .int .i64 st1.2), (9, .sl (.int .i64) (v0_3.1.getD st1.2.toNat [])), (11, .int .i64 ((v0_3.1.getD st1.2.toNat []).getD st2.toNat 0)), (32, .sl (.sl (.int .i64)) v0_3.1), (33, .int .i64 (v0_3.1.length : Int)), (34, .int .i64 st1.2), (48, .sl (.int .i64) (v0_3.1.getD st1.2.toNat [])), (49, .int .i64 ((v0_3.1.getD st1.2.toNat []).length : Int)), (50, .int .i64 st2), (94, .sl (.int .i64) ((v0_3.1.getD st1.2.toNat []).take st2.toNat)), (95, .int .i64 (((v0_3.1.getD st1.2.toNat []).take st2.toNat).length : Int)), (96, .int .i64 0)] [(2, .box 24 [.int .i64 l.1, .sl (.pair (.int .i64) (.int .i64)) l.2]), (108, .arr 3 (.int .i64) st1.1)] ?_
                   exact AW.weaken (zL [] [] []) (hk_lineallaw03_WeaveLayers_k6 () h)
                 ·refine zS 4 [(1, .sl (.int .i64) w), (2, .bp 2 0), (5, .sl (.sl (.int .i64)) v0_3.1), (7, .own 108), (8, .int .i64 st1.2), (9, .sl (.int .i64) (v0_3.1.getD st1.2.toNat [])), (10, .int .i64 st2), (11, .int .i64 ((v0_3.1.getD st1.2.toNat []).getD st2.toNat 0)), (32, .sl (.sl (.int .i64)) v0_3.1), (33, .int .i64 (v0_3.1.length : Int)), (34, .int .i64 st1.2), (48, .sl (.int .i64) (v0_3.1.getD st1.2.toNat [])), (49, .int .i64 ((v0_3.1.getD st1.2.toNat []).length : Int)), (50, .int .i64 st2), (79, .bool false), (82, .bool false), (86, .cv (undef))] [(2, .box 24 [.int .i64 l.1, .sl (.pair (.int .i64) (.int .i64)) l.2]), (108, .arr 3 (.int .i64) st1.1)] ?_
                  refine zB [(1, .sl (.int .i64) w), (2, .bp 2 0), (5, .sl (.sl (.int .i64)) v0_3.1), (7, .own 108), (8, .int .i64 st1.2), (9, .sl (.int .i64) (v0_3.1.getD st1.2.toNat [])), (10, .int .i64 st2), (11, .int .i64 ((v0_3.1.getD st1.2.toNat []).getD st2.toNat 0)), (32, .sl (.sl (.int .i64)) v0_3.1), (33, .int .i64 (v0_3.1.length : Int)), (34, .int .i64 st1.2), (48, .sl (.int .i64) (v0_3.1.getD st1.2.toNat [])), (49, .int .i64 ((v0_3.1.getD st1.2.toNat []).length : Int)), (50, .int .i64 st2), (91, .bool false)] [(2, .box 24 [.int .i64 l.1, .sl (.pair (.int .i64) (.int .i64)) l.2]), (108, .arr 3 (.int .i64) st1.1)] ?_
                  refine AW.cond (b := false) rfl (fun hb53 => by cases hb53) (fun _ => ?_)
                  refine zk ?_
                  refine zo ?_
                  obtain ⟨c54, h⟩ := ck_some.1 h
                  obtain ⟨c55, h⟩ := ck_some.1 h
                  refine zB [(1, .sl (.int .i64) w), (2, .bp 2 0), (5, .sl (.sl (.int .i64)) v0_3.1), (7, .own 108), (8, .int .i64 st1.2), (9, .sl (.int .i64) (v0_3.1.getD st1.2.toNat [])), (11, .int .i64 ((v0_3.1.getD st1.2.toNat []).getD st2.toNat 0)), (32, .sl (.sl (.int .i64)) v0_3.1), (33, .int .i64 (v0_3.1.length : Int)), (34, .int .i64 st1.2), (48, .sl (.int .i64) (v0_3.1.getD st1.2.toNat [])), (49, .int .i64 ((v0_3.1.getD st1.2.toNat []).length : Int)), (50, .int .i64 st2), (94, .sl (.int .i64) ((v0_3.1.getD st1.2.toNat []).take st2.toNat)), (95, .int .i64 (((v0_3.1.getD st1.2.toNat []).take st2.toNat).length : Int)), (96, .int .i64 0)] [(2, .box 24 [.int .i64 l.1, .sl (.pair (.int .i64) (.int .i64)) l.2]), (108, .arr 3 (.int .i64) st1.1)] ?_
                  exact AW.weaken (zL [] [] []) (hk_lineallaw03_WeaveLayers_k6 () h)
             ·refine AW.seq ?_
              refine zo ?_
              refine zB [(1, .sl (.int .i64) w), (2, .bp 2 0), (5, .sl (.sl (.int .i64)) v0_3.1), (7, .own 108), (8, .int .i64 st1.2), (9, .sl (.int .i64) (v0_3.1.getD st1.2.toNat [])), (10, .int .i64 st2), (11, .int .i64 ((v0_3.1.getD st1.2.toNat []).getD st2.toNat 0)), (12, .bool (decide (st1.2 = 0))), (32, .sl (.sl (.int .i64)) v0_3.1), (33, .int .i64 (v0_3.1.length : Int)), (34, .int .i64 st1.2), (48, .sl (.int .i64) (v0_3.1.getD st1.2.toNat [])), (49, .int .i64 ((v0_3.1.getD st1.2.toNat []).length : Int)), (50, .int .i64 st2), (58, .bool (decide (0 < st1.2)))] [(2, .box 24 [.int .i64 l.1, .sl (.pair (.int .i64) (.int .i64)) l.2]), (108, .arr 3 (.int .i64) st1.1)] ?_
              refine zQ h (fun hb56 h => ?_) (fun hb56 h => ?_)
              ·refine zo ?_
               obtain ⟨c57, h⟩ := ck_some.1 h
               obtain ⟨c58, h⟩ := ck_some.1 h
               obtain ⟨c59, h⟩ := ck_some.1 h
               refine zS 5 [(1, .sl (.int .i64) w), (2, .bp 2 0), (5, .sl (.sl (.int .i64)) v0_3.1), (7, .own 108), (8, .int .i64 st1.2), (9, .sl (.int .i64) (v0_3.1.getD st1.2.toNat [])), (10, .int .i64 st2), (11, .int .i64 ((v0_3.1.getD st1.2.toNat []).getD st2.toNat 0)), (12, .bool (decide (st1.2 = 0))), (32, .sl (.sl (.int .i64)) v0_3.1), (33, .int .i64 (v0_3.1.length : Int)), (34, .int .i64 st1.2), (48, .sl (.int .i64) (v0_3.1.getD st1.2.toNat [])), (49, .int .i64 ((v0_3.1.getD st1.2.toNat []).length : Int)), (50, .int .i64 st2), (63, .sl (.int .i64) (v0_3.1.getD (st1.2 - 1).toNat []))] [(2, .box 24 [.int .i64 l.1, .sl (.pair (.int .i64) (.int .i64)) l.2]), (108, .arr 3 (.int .i64) st1.1)] ?_
               refine zB [(1, .sl (.int .i64) w), (2, .bp 2 0), (5, .sl (.sl (.int .i64)) v0_3.1), (7, .own 108), (8, .int .i64 st1.2), (9, .sl (.int .i64) (v0_3.1.getD st1.2.toNat [])), (10, .int .i64 st2), (11, .int .i64 ((v0_3.1.getD st1.2.toNat []).getD st2.toNat 0)), (12, .bool (decide (st1.2 = 0))), (32, .sl (.sl (.int .i64)) v0_3.1), (33, .int .i64 (v0_3.1.length : Int)), (34, .int .i64 st1.2), (48, .sl (.int .i64) (v0_3.1.getD st1.2.toNat [])), (49, .int .i64 ((v0_3.1.getD st1.2.toNat []).length : Int)), (50, .int .i64 st2), (63, .sl (.int .i64) (v0_3.1.getD (st1.2 - 1).toNat [])), (64, .int .i64 ((v0_3.1.getD (st1.2 - 1).toNat []).length : Int)), (65, .int .i64 0)] [(2, .box 24 [.int .i64 l.1, .sl (.pair (.int .i64) (.int .i64)) l.2]), (108, .arr 3 (.int .i64) st1.1)] ?_
               refine AW.block ?_
               obtain ⟨rv64, hw60, ho61⟩ := Option.bind_eq_some_iff.1 h
               refine AW.loopO (lineallaw03_WeaveLayers_b3 l v0_3 st1 st2) (fun st3 => ⟨fr [(1, .sl (.int .i64) w), (2, .bp 2 0), (5, .sl (.sl (.int .i64)) v0_3.1), (7, .own 108), (8, .int .i64 st1.2), (9, .sl (.int .i64) (v0_3.1.getD st1.2.toNat [])), (10, .int .i64 st2), (11, .int .i64 ((v0_3.1.getD st1.2.toNat []).getD st2.toNat 0)), (12, .bool st3.1), (32, .sl (.sl (.int .i64)) v0_3.1), (33, .int .i64 (v0_3.1.length : Int)), (34, .int .i64 st1.2), (48, .sl (.int .i64) (v0_3.1.getD st1.2.toNat [])), (49, .int .i64 ((v0_3.1.getD st1.2.toNat []).length : Int)), (50, .int .i64 st2), (63, .sl (.int .i64) (v0_3.1.getD (st1.2 - 1).toNat [])), (64, .int .i64 ((v0_3.1.getD (st1.2 - 1).toNat []).length : Int)), (65, .int .i64 st3.2)], hpGet [(2, .box 24 [.int .i64 l.1, .sl (.pair (.int .i64) (.int .i64)) l.2]), (108, .arr 3 (.int .i64) st1.1)], gt⟩) ((decide (st1.2 = 0)), 0) hw60 (zL [] [] []) ?_
               as_aux_lemma =>
                intro st3 x63 h hd62
                unfold lineallaw03_WeaveLayers_b3 at h
                refine zo ?_
                refine zB [(1, .sl (.int .i64) w), (2, .bp 2 0), (5, .sl (.sl (.int .i64)) v0_3.1), (7, .own 108), (8, .int .i64 st1.2), (9, .sl (.int .i64) (v0_3.1.getD st1.2.toNat [])), (10, .int .i64 st2), (11, .int .i64 ((v0_3.1.getD st1.2.toNat []).getD st2.toNat 0)), (12, .bool st3.1), (32, .sl (.sl (.int .i64)) v0_3.1), (33, .int .i64 (v0_3.1.length : Int)), (34, .int .i64 st1.2), (48, .sl (.int .i64) (v0_3.1.getD st1.2.toNat [])), (49, .int .i64 ((v0_3.1.getD st1.2.toNat []).length : Int)), (50, .int .i64 st2), (63, .sl (.int .i64) (v0_3.1.getD (st1.2 - 1).toNat [])), (64, .int .i64 ((v0_3.1.getD (st1.2 - 1).toNat []).length : Int)), (65, .int .i64 st3.2), (66, .bool (decide (st3.2 < ((v0_3.1.getD (st1.2 - 1).toNat []).length : Int))))] [(2, .box 24 [.int .i64 l.1, .sl (.pair (.int .i64) (.int .i64)) l.2]), (108, .arr 3 (.int .i64) st1.1)] ?_
                refine AW.seq ?_
                refine zQ h (fun hb65 h => ?_) (fun hb65 h => ?_)
                ·refine zk ?_
                 refine AW.seq ?_
                 refine AW.block ?_
                 refine zo ?_
                 obtain ⟨c66, h⟩ := ck_some.1 h
                 obtain ⟨c67, h⟩ := ck_some.1 h
                 refine zB [(1, .sl (.int .i64) w), (2, .bp 2 0), (5, .sl (.sl (.int .i64)) v0_3.1), (7, .own 108), (8, .int .i64 st1.2), (9, .sl (.int .i64) (v0_3.1.getD st1.2.toNat [])), (10, .int .i64 st2), (11, .int .i64 ((v0_3.1.getD st1.2.toNat []).getD st2.toNat 0)), (12, .bool st3.1), (14, .int .i64 ((v0_3.1.getD (st1.2 - 1).toNat []).getD st3.2.toNat 0)), (32, .sl (.sl (.int .i64)) v0_3.1), (33, .int .i64 (v0_3.1.length : Int)), (34, .int .i64 st1.2), (48, .sl (.int .i64) (v0_3.1.getD st1.2.toNat [])), (49, .int .i64 ((v0_3.1.getD st1.2.toNat []).length : Int)), (50, .int .i64 st2), (63, .sl (.int .i64) (v0_3.1.getD (st1.2 - 1).toNat [])), (64, .int .i64 ((v0_3.1.getD (st1.2 - 1).toNat []).length : Int)), (65, .int .i64 st3.2)] [(2, .box 24 [.int .i64 l.1, .sl (.pair (.int .i64) (.int .i64)) l.2]), (108, .arr 3 (.int .i64) st1.1)] ?_
                 refine AW.ops ?_
                 refine zS 2 [(1, .sl (.int .i64) w), (2, .bp 2 0), (5, .sl (.sl (.int .i64)) v0_3.1), (7, .own 108), (8, .int .i64 st1.2), (9, .sl (.int .i64) (v0_3.1.getD st1.2.toNat [])), (10, .int .i64 st2), (11, .int .i64 ((v0_3.1.getD st1.2.toNat []).getD st2.toNat 0)), (14, .int .i64 ((v0_3.1.getD (st1.2 - 1).toNat []).getD st3.2.toNat 0)), (32, .sl (.sl (.int .i64)) v0_3.1), (33, .int .i64 (v0_3.1.length : Int)), (34, .int .i64 st1.2), (48, .sl (.int .i64) (v0_3.1.getD st1.2.toNat [])), (49, .int .i64 ((v0_3.1.getD st1.2.toNat []).length : Int)), (50, .int .i64 st2), (63, .sl (.int .i64) (v0_3.1.getD (st1.2 - 1).toNat [])), (64, .int .i64 ((v0_3.1.getD (st1.2 - 1).toNat []).length : Int)), (65, .int .i64 st3.2), (70, .bool st3.1)] [(2, .box 24 [.int .i64 l.1, .sl (.pair (.int .i64) (.int .i64)) l.2]), (108, .arr 3 (.int .i64) st1.1)] ?_
                 rcases zI h with ⟨hb68, h⟩ | ⟨hb68, h⟩
                 ·refine zS 4 [(1, .sl (.int .i64) w), (2, .bp 2 0), (5, .sl (.sl (.int .i64)) v0_3.1), (7, .own 108), (8, .int .i64 st1.2), (9, .sl (.int .i64) (v0_3.1.getD st1.2.toNat [])), (10, .int .i64 st2), (11, .int .i64 ((v0_3.1.getD st1.2.toNat []).getD st2.toNat 0)), (32, .sl (.sl (.int .i64)) v0_3.1), (33, .int .i64 (v0_3.1.length : Int)), (34, .int .i64 st1.2), (48, .sl (.int .i64) (v0_3.1.getD st1.2.toNat [])), (49, .int .i64 ((v0_3.1.getD st1.2.toNat []).length : Int)), (50, .int .i64 st2), (63, .sl (.int .i64) (v0_3.1.getD (st1.2 - 1).toNat [])), (64, .int .i64 ((v0_3.1.getD (st1.2 - 1).toNat []).length : Int)), (65, .int .i64 st3.2), (70, .bool true), (74, .cv (undef))] [(2, .box 24 [.int .i64 l.1, .sl (.pair (.int .i64) (.int .i64)) l.2]), (108, .arr 3 (.int .i64) st1.1)] ?_
                  refine zA [(1, .sl (.int .i64) w), (2, .bp 2 0), (5, .sl (.sl (.int .i64)) v0_3.1), (7, .own 108), (8, .int .i64 st1.2), (9, .sl (.int .i64) (v0_3.1.getD st1.2.toNat [])), (10, .int .i64 st2), (11, .int .i64 ((v0_3.1.getD st1.2.toNat []).getD st2.toNat 0)), (12, .bool true), (32, .sl (.sl (.int .i64)) v0_3.1), (33, .int .i64 (v0_3.1.length : Int)), (34, .int .i64 st1.2), (48, .sl (.int .i64) (v0_3.1.getD st1.2.toNat [])), (49, .int .i64 ((v0_3.1.getD st1.2.toNat []).length : Int)), (50, .int .i64 st2), (63, .sl (.int .i64) (v0_3.1.getD (st1.2 - 1).toNat [])), (64, .int .i64 ((v0_3.1.getD (st1.2 - 1).toNat []).length : Int)), (65, .int .i64 st3.2)] [(2, .box 24 [.int .i64 l.1, .sl (.pair (.int .i64) (.int .i64)) l.2]), (108, .arr 3 (.int .i64) st1.1)] ?_
                  refine ablock_n ?_
                  refine athen_n ?_
                  refine AW.ops ?_
                  obtain ⟨c69, h⟩ := ck_some.1 h
                  refine zA [(1, .sl (.int .i64) w), (2, .bp 2 0), (5, .sl (.sl (.int .i64)) v0_3.1), (7, .own 108), (8, .int .i64 st1.2), (9, .sl (.int .i64) (v0_3.1.getD st1.2.toNat [])), (10, .int .i64 st2), (11, .int .i64 ((v0_3.1.getD st1.2.toNat []).getD st2.toNat 0)), (12, .bool true), (32, .sl (.sl (.int .i64)) v0_3.1), (33, .int .i64 (v0_3.1.length : Int)), (34, .int .i64 st1.2), (48, .sl (.int .i64) (v0_3.1.getD st1.2.toNat [])), (49, .int .i64 ((v0_3.1.getD st1.2.toNat []).length : Int)), (50, .int .i64 st2), (63, .sl (.int .i64) (v0_3.1.getD (st1.2 - 1).toNat [])), (64, .int .i64 ((v0_3.1.getD (st1.2 - 1).toNat []).length : Int)), (65, .int .i64 (st3.2 + 1))] [(2, .box 24 [.int .i64 l.1, .sl (.pair (.int .i64) (.int .i64)) l.2]), (108, .arr 3 (.int .i64) st1.1)] ?_
                  obtain rfl := Option.some.inj h
                  exact ⟨_, rfl, zL [] [] []⟩
                 ·refine zS 3 [(1, .sl (.int .i64) w), (2, .bp 2 0), (5, .sl (.sl (.int .i64)) v0_3.1), (7, .own 108), (8, .int .i64 st1.2), (9, .sl (.int .i64) (v0_3.1.getD st1.2.toNat [])), (10, .int .i64 st2), (11, .int .i64 ((v0_3.1.getD st1.2.toNat []).getD st2.toNat 0)), (32, .sl (.sl (.int .i64)) v0_3.1), (33, .int .i64 (v0_3.1.length : Int)), (34, .int .i64 st1.2), (48, .sl (.int .i64) (v0_3.1.getD st1.2.toNat [])), (49, .int .i64 ((v0_3.1.getD st1.2.toNat []).length : Int)), (50, .int .i64 st2), (63, .sl (.int .i64) (v0_3.1.getD (st1.2 - 1).toNat [])), (64, .int .i64 ((v0_3.1.getD (st1.2 - 1).toNat []).length : Int)), (65, .int .i64 st3.2), (70, .bool false), (71, .agg [.int .i64 l.1, .sl (.pair (.int .i64) (.int .i64)) l.2]), (72, .int .i64 ((v0_3.1.getD st1.2.toNat []).getD st2.toNat 0)), (73, .int .i64 ((v0_3.1.getD (st1.2 - 1).toNat []).getD st3.2.toNat 0))] [(2, .box 24 [.int .i64 l.1, .sl (.pair (.int .i64) (.int .i64)) l.2]), (108, .arr 3 (.int .i64) st1.1)] ?_
                  obtain ⟨v0_5, hv70, h⟩ := Option.bind_eq_some_iff.1 h
                  refine zG [] [] (hc_lineallaw03_depends l ((v0_3.1.getD st1.2.toNat []).getD st2.toNat 0) ((v0_3.1.getD (st1.2 - 1).toNat []).getD st3.2.toNat 0) hv70) [(1, .sl (.int .i64) w), (2, .bp 2 0), (5, .sl (.sl (.int .i64)) v0_3.1), (7, .own 108), (8, .int .i64 st1.2), (9, .sl (.int .i64) (v0_3.1.getD st1.2.toNat [])), (10, .int .i64 st2), (11, .int .i64 ((v0_3.1.getD st1.2.toNat []).getD st2.toNat 0)), (32, .sl (.sl (.int .i64)) v0_3.1), (33, .int .i64 (v0_3.1.length : Int)), (34, .int .i64 st1.2), (48, .sl (.int .i64) (v0_3.1.getD st1.2.toNat [])), (49, .int .i64 ((v0_3.1.getD st1.2.toNat []).length : Int)), (50, .int .i64 st2), (63, .sl (.int .i64) (v0_3.1.getD (st1.2 - 1).toNat [])), (64, .int .i64 ((v0_3.1.getD (st1.2 - 1).toNat []).length : Int)), (65, .int .i64 st3.2), (70, .bool false), (74, .bool v0_5)] [(2, .box 24 [.int .i64 l.1, .sl (.pair (.int .i64) (.int .i64)) l.2]), (108, .arr 3 (.int .i64) st1.1)] ?_
                  refine zA [(1, .sl (.int .i64) w), (2, .bp 2 0), (5, .sl (.sl (.int .i64)) v0_3.1), (7, .own 108), (8, .int .i64 st1.2), (9, .sl (.int .i64) (v0_3.1.getD st1.2.toNat [])), (10, .int .i64 st2), (11, .int .i64 ((v0_3.1.getD st1.2.toNat []).getD st2.toNat 0)), (12, .bool v0_5), (32, .sl (.sl (.int .i64)) v0_3.1), (33, .int .i64 (v0_3.1.length : Int)), (34, .int .i64 st1.2), (48, .sl (.int .i64) (v0_3.1.getD st1.2.toNat [])), (49, .int .i64 ((v0_3.1.getD st1.2.toNat []).length : Int)), (50, .int .i64 st2), (63, .sl (.int .i64) (v0_3.1.getD (st1.2 - 1).toNat [])), (64, .int .i64 ((v0_3.1.getD (st1.2 - 1).toNat []).length : Int)), (65, .int .i64 st3.2)] [(2, .box 24 [.int .i64 l.1, .sl (.pair (.int .i64) (.int .i64)) l.2]), (108, .arr 3 (.int .i64) st1.1)] ?_
                  refine ablock_n ?_
                  refine athen_n ?_
                  refine AW.ops ?_
                  obtain ⟨c71, h⟩ := ck_some.1 h
                  refine zA [(1, .sl (.int .i64) w), (2, .bp 2 0), (5, .sl (.sl (.int .i64)) v0_3.1), (7, .own 108), (8, .int .i64 st1.2), (9, .sl (.int .i64) (v0_3.1.getD st1.2.toNat [])), (10, .int .i64 st2), (11, .int .i64 ((v0_3.1.getD st1.2.toNat []).getD st2.toNat 0)), (12, .bool v0_5), (32, .sl (.sl (.int .i64)) v0_3.1), (33, .int .i64 (v0_3.1.length : Int)), (34, .int .i64 st1.2), (48, .sl (.int .i64) (v0_3.1.getD st1.2.toNat [])), (49, .int .i64 ((v0_3.1.getD st1.2.toNat []).length : Int)), (50, .int .i64 st2), (63, .sl (.int .i64) (v0_3.1.getD (st1.2 - 1).toNat [])), (64, .int .i64 ((v0_3.1.getD (st1.2 - 1).toNat []).length : Int)), (65, .int .i64 (st3.2 + 1))] [(2, .box 24 [.int .i64 l.1, .sl (.pair (.int .i64) (.int .i64)) l.2]), (108, .arr 3 (.int .i64) st1.1)] ?_
                  obtain rfl := Option.some.inj h
                  exact ⟨_, rfl, zL [] [] []⟩
                ·refine AW.exit ?_
                 refine athen_e ?_
                 obtain rfl := Option.some.inj h
                 rw [← hd62 _ rfl] at ho61
                 have h := ho61
                 refine athen_e ?_
                 refine ablock_s ?_
                 refine athen_n ?_
                 exact AW.weaken (zL [] [] []) (hk_lineallaw03_WeaveLayers_k5 _ h)
              ·refine zk ?_
               exact AW.weaken (zL [] [] []) (hk_lineallaw03_WeaveLayers_k5 _ h)
           ·refine AW.exit ?_
            refine athen_e ?_
            obtain rfl := Option.some.inj h
            rw [← hd26 _ rfl] at ho25
            have h := ho25
            try simp only at h
            refine athen_e ?_
            refine ablock_s ?_
            refine athen_n ?_
            exact AW.weaken (zL [] [] []) (hk_lineallaw03_WeaveLayers_k3 () h)
     ·refine AW.exit ?_
      refine athen_e ?_
      obtain rfl := Option.some.inj h
      rw [← hd12 _ rfl] at ho11
      have h := ho11
      try simp only at h
      refine athen_e ?_
      refine ablock_s ?_
      refine athen_n ?_
      exact AW.weaken (zL [] [] []) (hk_lineallaw03_WeaveLayers_k1 _ h)

end Go.Proofs.Ytabchabbdnhjpaa
