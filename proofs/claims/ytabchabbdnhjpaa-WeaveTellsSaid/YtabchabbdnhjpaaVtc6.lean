/-
  Made by wip/tool/dc.py out of the print of the program: contracts.
-/
import Derived.Test.YtabchabbdnhjpaaVp
import Derived.Test.YtabchabbdnhjpaaSh6
import Derived.Test.YtabchabbdnhjpaaVtc1
namespace Go.Proofs.Ytabchabbdnhjpaa
open Go.RowKit

set_option linter.unusedSimpArgs false
set_option linter.unusedVariables false
set_option linter.constructorNameAsVariable false

set_option maxRecDepth 100000
set_option maxHeartbeats 2000000

theorem hc_weave_Projection (l : Int × (List (Int × Int))) (w : List Int) (a : Int) (b : Int) {r : (List Int) × Int} (h : weave_Projection l w a b = some r) : HC Try.prog 24 [] [.agg [.int .i64 l.1, .sl (.pair (.int .i64) (.int .i64)) l.2], .sl (.int .i64) w, .int .i64 a, .int .i64 b] [(2000, .arr 3 (.int .i64) r.1)] (.tup [.own 2000, .int .i64 r.2]) := by
 unfold weave_Projection at h
 refine zH Try.func24 [.tmp 8, .tmp 9] 55 ?_
 refine zo ?_
 refine zB [(1, .sl (.int .i64) w), (2, .int .i64 a), (3, .int .i64 b), (4, .bp 4 0)] [(4, .box 24 [.int .i64 l.1, .sl (.pair (.int .i64) (.int .i64)) l.2])] ?_
 refine AW.seq ?_
 refine zo ?_
 refine zS 3 [(1, .sl (.int .i64) w), (2, .int .i64 a), (3, .int .i64 b), (4, .bp 4 0), (16, .agg [.int .i64 l.1, .sl (.pair (.int .i64) (.int .i64)) l.2]), (18, .own 18)] [(4, .box 24 [.int .i64 l.1, .sl (.pair (.int .i64) (.int .i64)) l.2]), (18, .arr 25 (.sl (.int .i64)) [w])] ?_
 obtain ⟨v0, hv1, h⟩ := Option.bind_eq_some_iff.1 h
 refine zC [18] [] (hc_weave_checked l [w] hv1) [(1, .sl (.int .i64) w), (2, .int .i64 a), (3, .int .i64 b), (4, .bp 4 0), (19, .tup [.agg (cellsX T53 v0.1), .int .i64 v0.2])] [(4, .box 24 [.int .i64 l.1, .sl (.pair (.int .i64) (.int .i64)) l.2])] ?_
 refine zS 5 [(1, .sl (.int .i64) w), (2, .int .i64 a), (3, .int .i64 b), (4, .bp 4 0), (21, .int .i64 v0.2)] [(4, .box 24 [.int .i64 l.1, .sl (.pair (.int .i64) (.int .i64)) l.2])] ?_
 refine zB [(1, .sl (.int .i64) w), (2, .int .i64 a), (3, .int .i64 b), (4, .bp 4 0), (11, .int .i64 v0.2)] [(4, .box 24 [.int .i64 l.1, .sl (.pair (.int .i64) (.int .i64)) l.2])] ?_
 refine zo ?_
 refine zB [(1, .sl (.int .i64) w), (2, .int .i64 a), (3, .int .i64 b), (4, .bp 4 0), (11, .int .i64 v0.2), (23, .bool (!(decide (v0.2 = 0))))] [(4, .box 24 [.int .i64 l.1, .sl (.pair (.int .i64) (.int .i64)) l.2])] ?_
 refine zQ h (fun hb2 h => ?_) (fun hb2 h => ?_)
 ·refine zo ?_
  refine zB [(8, .cv (.slice none 0 0)), (9, .int .i64 v0.2)] [] ?_
  refine zr ?_
  obtain rfl := Option.some.inj h
  exact zR [] [2000] []
 ·refine zk ?_
  refine AW.seq ?_
  refine zo ?_
  refine zS 2 [(1, .sl (.int .i64) w), (2, .int .i64 a), (3, .int .i64 b), (4, .bp 4 0), (25, .agg [.int .i64 l.1, .sl (.pair (.int .i64) (.int .i64)) l.2]), (26, .int .i64 a)] [(4, .box 24 [.int .i64 l.1, .sl (.pair (.int .i64) (.int .i64)) l.2])] ?_
  obtain ⟨v0_2, hv3, h⟩ := Option.bind_eq_some_iff.1 h
  refine zC [] [] (hc_weave_isLetter l a hv3) [(1, .sl (.int .i64) w), (2, .int .i64 a), (3, .int .i64 b), (4, .bp 4 0), (27, .bool v0_2)] [(4, .box 24 [.int .i64 l.1, .sl (.pair (.int .i64) (.int .i64)) l.2])] ?_
  refine zS 2 [(1, .sl (.int .i64) w), (2, .int .i64 a), (3, .int .i64 b), (4, .bp 4 0), (29, .bool (!v0_2))] [(4, .box 24 [.int .i64 l.1, .sl (.pair (.int .i64) (.int .i64)) l.2])] ?_
  rcases zI h with ⟨hb4, h⟩ | ⟨hb4, h⟩
  ·refine zS 4 [(1, .sl (.int .i64) w), (2, .int .i64 a), (3, .int .i64 b), (29, .bool true), (33, .cv (undef))] [] ?_
   refine zB [(1, .sl (.int .i64) w), (2, .int .i64 a), (3, .int .i64 b), (34, .bool true)] [] ?_
   refine AW.cond (b := true) rfl (fun _ => ?_) (fun hb5 => by cases hb5)
   refine zo ?_
   refine zB [(8, .cv (.slice none 0 0)), (9, .int .i64 2)] [] ?_
   refine zr ?_
   obtain rfl := Option.some.inj h
   exact zR [] [2000] []
  ·refine zS 2 [(1, .sl (.int .i64) w), (2, .int .i64 a), (3, .int .i64 b), (29, .bool false), (30, .agg [.int .i64 l.1, .sl (.pair (.int .i64) (.int .i64)) l.2]), (31, .int .i64 b)] [] ?_
   obtain ⟨v0_3, hv6, h⟩ := Option.bind_eq_some_iff.1 h
   refine zG [] [] (hc_weave_isLetter l b hv6) [(1, .sl (.int .i64) w), (2, .int .i64 a), (3, .int .i64 b), (29, .bool false), (32, .bool v0_3)] [] ?_
   refine zB [(1, .sl (.int .i64) w), (2, .int .i64 a), (3, .int .i64 b), (34, .bool (!v0_3))] [] ?_
   refine zQ h (fun hb7 h => ?_) (fun hb7 h => ?_)
   ·refine zo ?_
    refine zB [(8, .cv (.slice none 0 0)), (9, .int .i64 2)] [] ?_
    refine zr ?_
    obtain rfl := Option.some.inj h
    exact zR [] [2000] []
   ·refine zk ?_
    refine zo ?_
    refine zB [(1, .sl (.int .i64) w), (2, .int .i64 a), (3, .int .i64 b), (12, .cv (.slice none 0 0))] [] ?_
    refine AW.have1 (fun b1 : (List Int) => weave_Projection_k1 b1 = some r) (fun b1 => ⟨fr [(12, .own 52)], hpGet [(52, .arr 3 (.int .i64) b1)], gt⟩) (fun b1 h => ?_) (fun hk_weave_Projection_k1 => ?_)
    ·as_aux_lemma =>
      unfold weave_Projection_k1 at h
      refine zo ?_
      refine zB [(8, .own 52), (9, .int .i64 0)] [(52, .arr 3 (.int .i64) b1)] ?_
      refine AW.ret ?_
      obtain rfl := Option.some.inj h
      exact zR [] [] [(2000, 52)]
    ·refine AW.seq ?_
     refine zo ?_
     refine zB [(2, .int .i64 a), (3, .int .i64 b), (12, .cv (.slice none 0 0)), (35, .sl (.int .i64) w), (36, .int .i64 (w.length : Int)), (37, .int .i64 0)] [] ?_
     refine AW.block ?_
     obtain ⟨rv12, hw8, ho9⟩ := Option.bind_eq_some_iff.1 h
     refine AW.loopO (weave_Projection_b1 w a b) (fun st1 => ⟨fr [(2, .int .i64 a), (3, .int .i64 b), (12, .own 52), (35, .sl (.int .i64) w), (36, .int .i64 (w.length : Int)), (37, .int .i64 st1.2)], hpGet [(52, .arr 3 (.int .i64) st1.1)], gt⟩) ([], 0) hw8 (zL [] [52] []) ?_
     as_aux_lemma =>
      intro st1 x11 h hd10
      unfold weave_Projection_b1 at h
      refine zo ?_
      refine zB [(2, .int .i64 a), (3, .int .i64 b), (12, .own 52), (35, .sl (.int .i64) w), (36, .int .i64 (w.length : Int)), (37, .int .i64 st1.2), (38, .bool (decide (st1.2 < (w.length : Int))))] [(52, .arr 3 (.int .i64) st1.1)] ?_
      refine AW.seq ?_
      refine zQ h (fun hb13 h => ?_) (fun hb13 h => ?_)
      ·refine zk ?_
       refine AW.seq ?_
       refine AW.block ?_
       refine zo ?_
       obtain ⟨c14, h⟩ := ck_some.1 h
       obtain ⟨c15, h⟩ := ck_some.1 h
       refine zB [(2, .int .i64 a), (3, .int .i64 b), (12, .own 52), (14, .int .i64 (w.getD st1.2.toNat 0)), (35, .sl (.int .i64) w), (36, .int .i64 (w.length : Int)), (37, .int .i64 st1.2)] [(52, .arr 3 (.int .i64) st1.1)] ?_
       refine zo ?_
       refine zS 4 [(2, .int .i64 a), (3, .int .i64 b), (12, .own 52), (14, .int .i64 (w.getD st1.2.toNat 0)), (35, .sl (.int .i64) w), (36, .int .i64 (w.length : Int)), (37, .int .i64 st1.2), (44, .bool (decide ((w.getD st1.2.toNat 0) = a)))] [(52, .arr 3 (.int .i64) st1.1)] ?_
       rcases zI h with ⟨hb16, h⟩ | ⟨hb16, h⟩
       ·refine zB [(2, .int .i64 a), (3, .int .i64 b), (12, .own 52), (14, .int .i64 (w.getD st1.2.toNat 0)), (35, .sl (.int .i64) w), (36, .int .i64 (w.length : Int)), (37, .int .i64 st1.2), (48, .bool true)] [(52, .arr 3 (.int .i64) st1.1)] ?_
        refine AW.cond (b := true) rfl (fun _ => ?_) (fun hb17 => by cases hb17)
        refine AW.ops ?_
        obtain ⟨c18, h⟩ := ck_some.1 h
        refine zA [(2, .int .i64 a), (3, .int .i64 b), (12, .own 52), (35, .sl (.int .i64) w), (36, .int .i64 (w.length : Int)), (37, .int .i64 st1.2)] [(52, .arr 3 (.int .i64) (st1.1 ++ [(w.getD st1.2.toNat 0)]))] ?_
        refine ablock_n ?_
        refine athen_n ?_
        refine AW.ops ?_
        obtain ⟨c19, h⟩ := ck_some.1 h
        refine zA [(2, .int .i64 a), (3, .int .i64 b), (12, .own 52), (35, .sl (.int .i64) w), (36, .int .i64 (w.length : Int)), (37, .int .i64 (st1.2 + 1))] [(52, .arr 3 (.int .i64) (st1.1 ++ [(w.getD st1.2.toNat 0)]))] ?_
        obtain rfl := Option.some.inj h
        exact ⟨_, rfl, zL [] [] []⟩
       ·refine zB [(2, .int .i64 a), (3, .int .i64 b), (12, .own 52), (14, .int .i64 (w.getD st1.2.toNat 0)), (35, .sl (.int .i64) w), (36, .int .i64 (w.length : Int)), (37, .int .i64 st1.2), (48, .bool (decide ((w.getD st1.2.toNat 0) = b)))] [(52, .arr 3 (.int .i64) st1.1)] ?_
        refine zQ h (fun hb20 h => ?_) (fun hb20 h => ?_)
        ·refine AW.ops ?_
         obtain ⟨c21, h⟩ := ck_some.1 h
         refine zA [(2, .int .i64 a), (3, .int .i64 b), (12, .own 52), (35, .sl (.int .i64) w), (36, .int .i64 (w.length : Int)), (37, .int .i64 st1.2)] [(52, .arr 3 (.int .i64) (st1.1 ++ [(w.getD st1.2.toNat 0)]))] ?_
         refine ablock_n ?_
         refine athen_n ?_
         refine AW.ops ?_
         obtain ⟨c22, h⟩ := ck_some.1 h
         refine zA [(2, .int .i64 a), (3, .int .i64 b), (12, .own 52), (35, .sl (.int .i64) w), (36, .int .i64 (w.length : Int)), (37, .int .i64 (st1.2 + 1))] [(52, .arr 3 (.int .i64) (st1.1 ++ [(w.getD st1.2.toNat 0)]))] ?_
         obtain rfl := Option.some.inj h
         exact ⟨_, rfl, zL [] [] []⟩
        ·refine zm ?_
         refine athen_n ?_
         refine AW.ops ?_
         obtain ⟨c23, h⟩ := ck_some.1 h
         refine zA [(2, .int .i64 a), (3, .int .i64 b), (12, .own 52), (35, .sl (.int .i64) w), (36, .int .i64 (w.length : Int)), (37, .int .i64 (st1.2 + 1))] [(52, .arr 3 (.int .i64) st1.1)] ?_
         obtain rfl := Option.some.inj h
         exact ⟨_, rfl, zL [] [] []⟩
      ·refine AW.exit ?_
       refine athen_e ?_
       obtain rfl := Option.some.inj h
       rw [← hd10 _ rfl] at ho9
       have h := ho9
       refine athen_e ?_
       refine ablock_s ?_
       refine athen_n ?_
       exact AW.weaken (zL [] [] []) (hk_weave_Projection_k1 _ h)

end Go.Proofs.Ytabchabbdnhjpaa
