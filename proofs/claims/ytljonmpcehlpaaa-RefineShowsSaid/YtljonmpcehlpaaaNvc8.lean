/-
  Made by wip/tool/dc.py out of the print of the program: contracts.
-/
import Derived.Test.YtljonmpcehlpaaaRfp
import Derived.Test.YtljonmpcehlpaaaShr
import Derived.Test.YtljonmpcehlpaaaNvc4
import Derived.Test.YtljonmpcehlpaaaNvc5
namespace Go.Proofs.Ytljonmpcehlpaaa
open Go.RowKit

set_option linter.unusedSimpArgs false
set_option linter.unusedVariables false
set_option linter.constructorNameAsVariable false

set_option maxRecDepth 100000
set_option maxHeartbeats 2000000

theorem hc_linealref05_Plain (s : Int × (List (Int × Int × Int))) {r : Bool × Int} (h : linealref05_Plain s = some r) : HC Try.prog 44 [] [.agg [.int .i64 s.1, .sl (.pair (.int .i64) (.pair (.int .i64) (.int .i64))) s.2]] [] (.tup [.bool r.1, .int .i64 r.2]) := by
 unfold linealref05_Plain at h
 refine zH Try.func44 [.tmp 2, .tmp 3] 45 ?_
 refine zo ?_
 refine zB [(1, .bp 1 0)] [(1, .box 24 [.int .i64 s.1, .sl (.pair (.int .i64) (.pair (.int .i64) (.int .i64))) s.2])] ?_
 refine AW.seq ?_
 refine zo ?_
 refine zS 1 [(1, .bp 1 0), (8, .agg [.int .i64 s.1, .sl (.pair (.int .i64) (.pair (.int .i64) (.int .i64))) s.2])] [(1, .box 24 [.int .i64 s.1, .sl (.pair (.int .i64) (.pair (.int .i64) (.int .i64))) s.2])] ?_
 obtain ⟨v0, hv1, h⟩ := Option.bind_eq_some_iff.1 h
 refine zC [] [] (hc_linealref05_Valid s hv1) [(1, .bp 1 0), (9, .bool v0)] [(1, .box 24 [.int .i64 s.1, .sl (.pair (.int .i64) (.pair (.int .i64) (.int .i64))) s.2])] ?_
 refine zB [(1, .bp 1 0), (10, .bool (!v0))] [(1, .box 24 [.int .i64 s.1, .sl (.pair (.int .i64) (.pair (.int .i64) (.int .i64))) s.2])] ?_
 refine zQ h (fun hb2 h => ?_) (fun hb2 h => ?_)
 ·refine zo ?_
  refine zB [(2, .bool false), (3, .int .i64 50)] [] ?_
  refine zr ?_
  obtain rfl := Option.some.inj h
  exact zR [] [] []
 ·refine zk ?_
  refine AW.have1 (fun _ : Unit => linealref05_Plain_k1 = some r) (fun _ => ⟨fr [], hpGet [], gt⟩) (fun _ h => ?_) (fun hk_linealref05_Plain_k1 => ?_)
  ·as_aux_lemma =>
    unfold linealref05_Plain_k1 at h
    refine zo ?_
    refine zB [(2, .bool true), (3, .int .i64 0)] [] ?_
    refine AW.ret ?_
    obtain rfl := Option.some.inj h
    exact zR [] [] []
  ·refine AW.seq ?_
   refine zo ?_
   refine zB [(1, .bp 1 0), (12, .sl (.pair (.int .i64) (.pair (.int .i64) (.int .i64))) s.2), (13, .int .i64 (s.2.length : Int)), (14, .int .i64 0)] [(1, .box 24 [.int .i64 s.1, .sl (.pair (.int .i64) (.pair (.int .i64) (.int .i64))) s.2])] ?_
   refine AW.block ?_
   obtain ⟨rv7, hw3, ho4⟩ := Option.bind_eq_some_iff.1 h
   refine AW.loopO (linealref05_Plain_b1 s) (fun st1 => ⟨fr [(1, .bp 1 0), (12, .sl (.pair (.int .i64) (.pair (.int .i64) (.int .i64))) s.2), (13, .int .i64 (s.2.length : Int)), (14, .int .i64 st1)], hpGet [(1, .box 24 [.int .i64 s.1, .sl (.pair (.int .i64) (.pair (.int .i64) (.int .i64))) s.2])], gt⟩) 0 hw3 (zL [] [] []) ?_
   as_aux_lemma =>
    intro st1 x6 h hd5
    unfold linealref05_Plain_b1 at h
    refine zo ?_
    refine zB [(1, .bp 1 0), (12, .sl (.pair (.int .i64) (.pair (.int .i64) (.int .i64))) s.2), (13, .int .i64 (s.2.length : Int)), (14, .int .i64 st1), (15, .bool (decide (st1 < (s.2.length : Int))))] [(1, .box 24 [.int .i64 s.1, .sl (.pair (.int .i64) (.pair (.int .i64) (.int .i64))) s.2])] ?_
    refine AW.seq ?_
    refine zQ h (fun hb8 h => ?_) (fun hb8 h => ?_)
    ·refine zk ?_
     refine AW.have1 (fun _ : Unit => linealref05_Plain_k2 st1 = some x6) (fun _ => ⟨fr [(1, .bp 1 0), (12, .sl (.pair (.int .i64) (.pair (.int .i64) (.int .i64))) s.2), (13, .int .i64 (s.2.length : Int)), (14, .int .i64 st1)], hpGet [(1, .box 24 [.int .i64 s.1, .sl (.pair (.int .i64) (.pair (.int .i64) (.int .i64))) s.2])], gt⟩) (fun _ h => ?_) (fun hk_linealref05_Plain_k2 => ?_)
     ·as_aux_lemma =>
       unfold linealref05_Plain_k2 at h
       refine AW.ops ?_
       obtain ⟨c9, h⟩ := ck_some.1 h
       refine zA [(1, .bp 1 0), (12, .sl (.pair (.int .i64) (.pair (.int .i64) (.int .i64))) s.2), (13, .int .i64 (s.2.length : Int)), (14, .int .i64 (st1 + 1))] [(1, .box 24 [.int .i64 s.1, .sl (.pair (.int .i64) (.pair (.int .i64) (.int .i64))) s.2])] ?_
       obtain rfl := Option.some.inj h
       exact ⟨_, rfl, zL [] [] []⟩
     ·refine AW.seq ?_
      refine AW.block ?_
      refine zo ?_
      obtain ⟨c10, h⟩ := ck_some.1 h
      obtain ⟨c11, h⟩ := ck_some.1 h
      refine zS 5 [(1, .bp 1 0), (4, .int .i64 st1), (5, .bp 5 0), (12, .sl (.pair (.int .i64) (.pair (.int .i64) (.int .i64))) s.2), (13, .int .i64 (s.2.length : Int)), (14, .int .i64 st1), (18, .agg [.int .i64 (s.2.getD st1.toNat (0, 0, 0)).1, .int .i64 (s.2.getD st1.toNat (0, 0, 0)).2.1, .int .i64 (s.2.getD st1.toNat (0, 0, 0)).2.2])] [(1, .box 24 [.int .i64 s.1, .sl (.pair (.int .i64) (.pair (.int .i64) (.int .i64))) s.2]), (5, .box 66 [.int .i64 0, .int .i64 0, .int .i64 0])] ?_
      refine zB [(1, .bp 1 0), (4, .int .i64 st1), (5, .bp 5 0), (12, .sl (.pair (.int .i64) (.pair (.int .i64) (.int .i64))) s.2), (13, .int .i64 (s.2.length : Int)), (14, .int .i64 st1)] [(1, .box 24 [.int .i64 s.1, .sl (.pair (.int .i64) (.pair (.int .i64) (.int .i64))) s.2]), (5, .box 66 [.int .i64 (s.2.getD st1.toNat (0, 0, 0)).1, .int .i64 (s.2.getD st1.toNat (0, 0, 0)).2.1, .int .i64 (s.2.getD st1.toNat (0, 0, 0)).2.2])] ?_
      refine AW.seq ?_
      refine zo ?_
      refine zB [(1, .bp 1 0), (4, .int .i64 st1), (5, .bp 5 0), (12, .sl (.pair (.int .i64) (.pair (.int .i64) (.int .i64))) s.2), (13, .int .i64 (s.2.length : Int)), (14, .int .i64 st1), (21, .bool (decide ((s.2.getD st1.toNat (0, 0, 0)).2.1 = 0)))] [(1, .box 24 [.int .i64 s.1, .sl (.pair (.int .i64) (.pair (.int .i64) (.int .i64))) s.2]), (5, .box 66 [.int .i64 (s.2.getD st1.toNat (0, 0, 0)).1, .int .i64 (s.2.getD st1.toNat (0, 0, 0)).2.1, .int .i64 (s.2.getD st1.toNat (0, 0, 0)).2.2])] ?_
      refine zQ h (fun hb12 h => ?_) (fun hb12 h => ?_)
      ·refine zo ?_
       refine zB [(2, .bool false), (3, .int .i64 0)] [] ?_
       refine zr ?_
       refine ablock_r ?_
       refine athen_r ?_
       obtain rfl := Option.some.inj h
       rw [← hd5 _ rfl] at ho4
       have h := ho4
       try simp only at h
       refine athen_r ?_
       refine ablock_r ?_
       refine athen_r ?_
       obtain rfl := Option.some.inj h
       exact zR [] [] []
      ·refine zk ?_
       refine zo ?_
       obtain ⟨c13, h⟩ := ck_some.1 h
       obtain ⟨c14, h⟩ := ck_some.1 h
       refine zS 5 [(1, .bp 1 0), (5, .bp 5 0), (12, .sl (.pair (.int .i64) (.pair (.int .i64) (.int .i64))) s.2), (13, .int .i64 (s.2.length : Int)), (14, .int .i64 st1), (25, .sl (.pair (.int .i64) (.pair (.int .i64) (.int .i64))) (s.2.take st1.toNat)), (26, .int .i64 ((s.2.take st1.toNat).length : Int))] [(1, .box 24 [.int .i64 s.1, .sl (.pair (.int .i64) (.pair (.int .i64) (.int .i64))) s.2]), (5, .box 66 [.int .i64 (s.2.getD st1.toNat (0, 0, 0)).1, .int .i64 (s.2.getD st1.toNat (0, 0, 0)).2.1, .int .i64 (s.2.getD st1.toNat (0, 0, 0)).2.2])] ?_
       refine zB [(1, .bp 1 0), (5, .bp 5 0), (12, .sl (.pair (.int .i64) (.pair (.int .i64) (.int .i64))) s.2), (13, .int .i64 (s.2.length : Int)), (14, .int .i64 st1), (25, .sl (.pair (.int .i64) (.pair (.int .i64) (.int .i64))) (s.2.take st1.toNat)), (26, .int .i64 ((s.2.take st1.toNat).length : Int)), (27, .int .i64 0)] [(1, .box 24 [.int .i64 s.1, .sl (.pair (.int .i64) (.pair (.int .i64) (.int .i64))) s.2]), (5, .box 66 [.int .i64 (s.2.getD st1.toNat (0, 0, 0)).1, .int .i64 (s.2.getD st1.toNat (0, 0, 0)).2.1, .int .i64 (s.2.getD st1.toNat (0, 0, 0)).2.2])] ?_
       refine AW.block ?_
       obtain ⟨rv19, hw15, ho16⟩ := Option.bind_eq_some_iff.1 h
       refine AW.loopO (linealref05_Plain_b2 s st1) (fun st2 => ⟨fr [(1, .bp 1 0), (5, .bp 5 0), (12, .sl (.pair (.int .i64) (.pair (.int .i64) (.int .i64))) s.2), (13, .int .i64 (s.2.length : Int)), (14, .int .i64 st1), (25, .sl (.pair (.int .i64) (.pair (.int .i64) (.int .i64))) (s.2.take st1.toNat)), (26, .int .i64 ((s.2.take st1.toNat).length : Int)), (27, .int .i64 st2)], hpGet [(1, .box 24 [.int .i64 s.1, .sl (.pair (.int .i64) (.pair (.int .i64) (.int .i64))) s.2]), (5, .box 66 [.int .i64 (s.2.getD st1.toNat (0, 0, 0)).1, .int .i64 (s.2.getD st1.toNat (0, 0, 0)).2.1, .int .i64 (s.2.getD st1.toNat (0, 0, 0)).2.2])], gt⟩) 0 hw15 (zL [] [] []) ?_
       as_aux_lemma =>
        intro st2 x18 h hd17
        unfold linealref05_Plain_b2 at h
        refine zo ?_
        refine zB [(1, .bp 1 0), (5, .bp 5 0), (12, .sl (.pair (.int .i64) (.pair (.int .i64) (.int .i64))) s.2), (13, .int .i64 (s.2.length : Int)), (14, .int .i64 st1), (25, .sl (.pair (.int .i64) (.pair (.int .i64) (.int .i64))) (s.2.take st1.toNat)), (26, .int .i64 ((s.2.take st1.toNat).length : Int)), (27, .int .i64 st2), (28, .bool (decide (st2 < ((s.2.take st1.toNat).length : Int))))] [(1, .box 24 [.int .i64 s.1, .sl (.pair (.int .i64) (.pair (.int .i64) (.int .i64))) s.2]), (5, .box 66 [.int .i64 (s.2.getD st1.toNat (0, 0, 0)).1, .int .i64 (s.2.getD st1.toNat (0, 0, 0)).2.1, .int .i64 (s.2.getD st1.toNat (0, 0, 0)).2.2])] ?_
        refine AW.seq ?_
        refine zQ h (fun hb20 h => ?_) (fun hb20 h => ?_)
        ·refine zk ?_
         refine AW.seq ?_
         refine AW.block ?_
         refine zo ?_
         obtain ⟨c21, h⟩ := ck_some.1 h
         obtain ⟨c22, h⟩ := ck_some.1 h
         refine zB [(1, .bp 1 0), (5, .bp 5 0), (7, .bp 7 0), (12, .sl (.pair (.int .i64) (.pair (.int .i64) (.int .i64))) s.2), (13, .int .i64 (s.2.length : Int)), (14, .int .i64 st1), (25, .sl (.pair (.int .i64) (.pair (.int .i64) (.int .i64))) (s.2.take st1.toNat)), (26, .int .i64 ((s.2.take st1.toNat).length : Int)), (27, .int .i64 st2)] [(1, .box 24 [.int .i64 s.1, .sl (.pair (.int .i64) (.pair (.int .i64) (.int .i64))) s.2]), (5, .box 66 [.int .i64 (s.2.getD st1.toNat (0, 0, 0)).1, .int .i64 (s.2.getD st1.toNat (0, 0, 0)).2.1, .int .i64 (s.2.getD st1.toNat (0, 0, 0)).2.2]), (7, .box 66 [.int .i64 ((s.2.take st1.toNat).getD st2.toNat (0, 0, 0)).1, .int .i64 ((s.2.take st1.toNat).getD st2.toNat (0, 0, 0)).2.1, .int .i64 ((s.2.take st1.toNat).getD st2.toNat (0, 0, 0)).2.2])] ?_
         refine zo ?_
         refine zS 5 [(1, .bp 1 0), (5, .bp 5 0), (7, .bp 7 0), (12, .sl (.pair (.int .i64) (.pair (.int .i64) (.int .i64))) s.2), (13, .int .i64 (s.2.length : Int)), (14, .int .i64 st1), (25, .sl (.pair (.int .i64) (.pair (.int .i64) (.int .i64))) (s.2.take st1.toNat)), (26, .int .i64 ((s.2.take st1.toNat).length : Int)), (27, .int .i64 st2), (35, .bool (decide ((s.2.getD st1.toNat (0, 0, 0)).1 = ((s.2.take st1.toNat).getD st2.toNat (0, 0, 0)).1)))] [(1, .box 24 [.int .i64 s.1, .sl (.pair (.int .i64) (.pair (.int .i64) (.int .i64))) s.2]), (5, .box 66 [.int .i64 (s.2.getD st1.toNat (0, 0, 0)).1, .int .i64 (s.2.getD st1.toNat (0, 0, 0)).2.1, .int .i64 (s.2.getD st1.toNat (0, 0, 0)).2.2]), (7, .box 66 [.int .i64 ((s.2.take st1.toNat).getD st2.toNat (0, 0, 0)).1, .int .i64 ((s.2.take st1.toNat).getD st2.toNat (0, 0, 0)).2.1, .int .i64 ((s.2.take st1.toNat).getD st2.toNat (0, 0, 0)).2.2])] ?_
         refine zS 1 [(1, .bp 1 0), (5, .bp 5 0), (7, .bp 7 0), (12, .sl (.pair (.int .i64) (.pair (.int .i64) (.int .i64))) s.2), (13, .int .i64 (s.2.length : Int)), (14, .int .i64 st1), (25, .sl (.pair (.int .i64) (.pair (.int .i64) (.int .i64))) (s.2.take st1.toNat)), (26, .int .i64 ((s.2.take st1.toNat).length : Int)), (27, .int .i64 st2), (36, .bool (decide ((s.2.getD st1.toNat (0, 0, 0)).1 = ((s.2.take st1.toNat).getD st2.toNat (0, 0, 0)).1)))] [(1, .box 24 [.int .i64 s.1, .sl (.pair (.int .i64) (.pair (.int .i64) (.int .i64))) s.2]), (5, .box 66 [.int .i64 (s.2.getD st1.toNat (0, 0, 0)).1, .int .i64 (s.2.getD st1.toNat (0, 0, 0)).2.1, .int .i64 (s.2.getD st1.toNat (0, 0, 0)).2.2]), (7, .box 66 [.int .i64 ((s.2.take st1.toNat).getD st2.toNat (0, 0, 0)).1, .int .i64 ((s.2.take st1.toNat).getD st2.toNat (0, 0, 0)).2.1, .int .i64 ((s.2.take st1.toNat).getD st2.toNat (0, 0, 0)).2.2])] ?_
         rcases zI h with ⟨hb23, h⟩ | ⟨hb23, h⟩
         ·refine zS 5 [(1, .bp 1 0), (5, .bp 5 0), (12, .sl (.pair (.int .i64) (.pair (.int .i64) (.int .i64))) s.2), (13, .int .i64 (s.2.length : Int)), (14, .int .i64 st1), (25, .sl (.pair (.int .i64) (.pair (.int .i64) (.int .i64))) (s.2.take st1.toNat)), (26, .int .i64 ((s.2.take st1.toNat).length : Int)), (27, .int .i64 st2), (36, .bool true), (41, .bool (decide ((s.2.getD st1.toNat (0, 0, 0)).2.1 = ((s.2.take st1.toNat).getD st2.toNat (0, 0, 0)).2.1)))] [(1, .box 24 [.int .i64 s.1, .sl (.pair (.int .i64) (.pair (.int .i64) (.int .i64))) s.2]), (5, .box 66 [.int .i64 (s.2.getD st1.toNat (0, 0, 0)).1, .int .i64 (s.2.getD st1.toNat (0, 0, 0)).2.1, .int .i64 (s.2.getD st1.toNat (0, 0, 0)).2.2])] ?_
          refine zB [(1, .bp 1 0), (5, .bp 5 0), (12, .sl (.pair (.int .i64) (.pair (.int .i64) (.int .i64))) s.2), (13, .int .i64 (s.2.length : Int)), (14, .int .i64 st1), (25, .sl (.pair (.int .i64) (.pair (.int .i64) (.int .i64))) (s.2.take st1.toNat)), (26, .int .i64 ((s.2.take st1.toNat).length : Int)), (27, .int .i64 st2), (42, .bool (decide ((s.2.getD st1.toNat (0, 0, 0)).2.1 = ((s.2.take st1.toNat).getD st2.toNat (0, 0, 0)).2.1)))] [(1, .box 24 [.int .i64 s.1, .sl (.pair (.int .i64) (.pair (.int .i64) (.int .i64))) s.2]), (5, .box 66 [.int .i64 (s.2.getD st1.toNat (0, 0, 0)).1, .int .i64 (s.2.getD st1.toNat (0, 0, 0)).2.1, .int .i64 (s.2.getD st1.toNat (0, 0, 0)).2.2])] ?_
          refine zQ h (fun hb24 h => ?_) (fun hb24 h => ?_)
          ·refine zo ?_
           refine zB [(2, .bool false), (3, .int .i64 0)] [] ?_
           refine AW.ret ?_
           refine ablock_r ?_
           refine athen_r ?_
           obtain rfl := Option.some.inj h
           rw [← hd17 _ rfl] at ho16
           have h := ho16
           try simp only at h
           refine athen_r ?_
           refine ablock_r ?_
           refine ablock_r ?_
           refine athen_r ?_
           obtain rfl := Option.some.inj h
           rw [← hd5 _ rfl] at ho4
           have h := ho4
           try simp only at h
           refine athen_r ?_
           refine ablock_r ?_
           refine athen_r ?_
           obtain rfl := Option.some.inj h
           exact zR [] [] []
          ·refine zm ?_
           refine athen_n ?_
           refine AW.ops ?_
           obtain ⟨c25, h⟩ := ck_some.1 h
           refine zA [(1, .bp 1 0), (5, .bp 5 0), (12, .sl (.pair (.int .i64) (.pair (.int .i64) (.int .i64))) s.2), (13, .int .i64 (s.2.length : Int)), (14, .int .i64 st1), (25, .sl (.pair (.int .i64) (.pair (.int .i64) (.int .i64))) (s.2.take st1.toNat)), (26, .int .i64 ((s.2.take st1.toNat).length : Int)), (27, .int .i64 (st2 + 1))] [(1, .box 24 [.int .i64 s.1, .sl (.pair (.int .i64) (.pair (.int .i64) (.int .i64))) s.2]), (5, .box 66 [.int .i64 (s.2.getD st1.toNat (0, 0, 0)).1, .int .i64 (s.2.getD st1.toNat (0, 0, 0)).2.1, .int .i64 (s.2.getD st1.toNat (0, 0, 0)).2.2])] ?_
           obtain rfl := Option.some.inj h
           exact ⟨_, rfl, zL [] [] []⟩
         ·refine zS 4 [(1, .bp 1 0), (5, .bp 5 0), (12, .sl (.pair (.int .i64) (.pair (.int .i64) (.int .i64))) s.2), (13, .int .i64 (s.2.length : Int)), (14, .int .i64 st1), (25, .sl (.pair (.int .i64) (.pair (.int .i64) (.int .i64))) (s.2.take st1.toNat)), (26, .int .i64 ((s.2.take st1.toNat).length : Int)), (27, .int .i64 st2), (36, .bool false), (38, .cv (undef)), (40, .cv (undef))] [(1, .box 24 [.int .i64 s.1, .sl (.pair (.int .i64) (.pair (.int .i64) (.int .i64))) s.2]), (5, .box 66 [.int .i64 (s.2.getD st1.toNat (0, 0, 0)).1, .int .i64 (s.2.getD st1.toNat (0, 0, 0)).2.1, .int .i64 (s.2.getD st1.toNat (0, 0, 0)).2.2])] ?_
          refine zB [(1, .bp 1 0), (5, .bp 5 0), (12, .sl (.pair (.int .i64) (.pair (.int .i64) (.int .i64))) s.2), (13, .int .i64 (s.2.length : Int)), (14, .int .i64 st1), (25, .sl (.pair (.int .i64) (.pair (.int .i64) (.int .i64))) (s.2.take st1.toNat)), (26, .int .i64 ((s.2.take st1.toNat).length : Int)), (27, .int .i64 st2), (42, .bool false)] [(1, .box 24 [.int .i64 s.1, .sl (.pair (.int .i64) (.pair (.int .i64) (.int .i64))) s.2]), (5, .box 66 [.int .i64 (s.2.getD st1.toNat (0, 0, 0)).1, .int .i64 (s.2.getD st1.toNat (0, 0, 0)).2.1, .int .i64 (s.2.getD st1.toNat (0, 0, 0)).2.2])] ?_
          refine AW.cond (b := false) rfl (fun hb26 => by cases hb26) (fun _ => ?_)
          refine zm ?_
          refine athen_n ?_
          refine AW.ops ?_
          obtain ⟨c27, h⟩ := ck_some.1 h
          refine zA [(1, .bp 1 0), (5, .bp 5 0), (12, .sl (.pair (.int .i64) (.pair (.int .i64) (.int .i64))) s.2), (13, .int .i64 (s.2.length : Int)), (14, .int .i64 st1), (25, .sl (.pair (.int .i64) (.pair (.int .i64) (.int .i64))) (s.2.take st1.toNat)), (26, .int .i64 ((s.2.take st1.toNat).length : Int)), (27, .int .i64 (st2 + 1))] [(1, .box 24 [.int .i64 s.1, .sl (.pair (.int .i64) (.pair (.int .i64) (.int .i64))) s.2]), (5, .box 66 [.int .i64 (s.2.getD st1.toNat (0, 0, 0)).1, .int .i64 (s.2.getD st1.toNat (0, 0, 0)).2.1, .int .i64 (s.2.getD st1.toNat (0, 0, 0)).2.2])] ?_
          obtain rfl := Option.some.inj h
          exact ⟨_, rfl, zL [] [] []⟩
        ·refine AW.exit ?_
         refine athen_e ?_
         obtain rfl := Option.some.inj h
         rw [← hd17 _ rfl] at ho16
         have h := ho16
         try simp only at h
         refine athen_e ?_
         refine ablock_s ?_
         refine ablock_n ?_
         refine athen_n ?_
         exact AW.weaken (zL [] [] []) (hk_linealref05_Plain_k2 () h)
    ·refine AW.exit ?_
     refine athen_e ?_
     obtain rfl := Option.some.inj h
     rw [← hd5 _ rfl] at ho4
     have h := ho4
     try simp only at h
     refine athen_e ?_
     refine ablock_s ?_
     refine athen_n ?_
     exact AW.weaken (zL [] [] []) (hk_linealref05_Plain_k1 () h)

theorem hc_linealref05_Seen (s : Int × (List (Int × Int × Int))) {r : Int × (List (Int × Int × Int)) × Int} (h : linealref05_Seen s = some r) : HC Try.prog 46 [] [.agg [.int .i64 s.1, .sl (.pair (.int .i64) (.pair (.int .i64) (.int .i64))) s.2]] [(2000, .arr 66 (.pair (.int .i64) (.pair (.int .i64) (.int .i64))) r.2.1)] (.tup [.agg [.int .i64 r.1, .own 2000], .int .i64 r.2.2]) := by
 unfold linealref05_Seen at h
 refine zH Try.func46 [.cell 2 24, .tmp 3] 75 ?_
 refine zo ?_
 refine zB [(1, .bp 1 0), (2, .bp 2 0)] [(1, .box 24 [.int .i64 s.1, .sl (.pair (.int .i64) (.pair (.int .i64) (.int .i64))) s.2]), (2, .box 24 [.int .i64 0, .cv (.slice none 0 0)])] ?_
 refine AW.seq ?_
 refine zo ?_
 refine zS 1 [(1, .bp 1 0), (2, .bp 2 0), (10, .agg [.int .i64 s.1, .sl (.pair (.int .i64) (.pair (.int .i64) (.int .i64))) s.2])] [(1, .box 24 [.int .i64 s.1, .sl (.pair (.int .i64) (.pair (.int .i64) (.int .i64))) s.2]), (2, .box 24 [.int .i64 0, .cv (.slice none 0 0)])] ?_
 obtain ⟨v0, hv1, h⟩ := Option.bind_eq_some_iff.1 h
 refine zC [] [] (hc_linealref05_Valid s hv1) [(1, .bp 1 0), (2, .bp 2 0), (11, .bool v0)] [(1, .box 24 [.int .i64 s.1, .sl (.pair (.int .i64) (.pair (.int .i64) (.int .i64))) s.2]), (2, .box 24 [.int .i64 0, .cv (.slice none 0 0)])] ?_
 refine zB [(1, .bp 1 0), (2, .bp 2 0), (12, .bool (!v0))] [(1, .box 24 [.int .i64 s.1, .sl (.pair (.int .i64) (.pair (.int .i64) (.int .i64))) s.2]), (2, .box 24 [.int .i64 0, .cv (.slice none 0 0)])] ?_
 refine zQ h (fun hb2 h => ?_) (fun hb2 h => ?_)
 ·refine zo ?_
  refine zB [(2, .bp 2 0), (3, .int .i64 50)] [(2, .box 24 [.int .i64 0, .cv (.slice none 0 0)])] ?_
  refine zr ?_
  obtain rfl := Option.some.inj h
  exact zR [] [2000] []
 ·refine zk ?_
  refine zo ?_
  refine zS 1 [(1, .bp 1 0), (2, .bp 2 0), (14, .agg [.int .i64 s.1, .sl (.pair (.int .i64) (.pair (.int .i64) (.int .i64))) s.2])] [(1, .box 24 [.int .i64 s.1, .sl (.pair (.int .i64) (.pair (.int .i64) (.int .i64))) s.2]), (2, .box 24 [.int .i64 0, .cv (.slice none 0 0)])] ?_
  obtain ⟨v0_2, hv3, h⟩ := Option.bind_eq_some_iff.1 h
  refine zC [] [] (hc_linealref05_quiet s 1 hv3) [(1, .bp 1 0), (2, .bp 2 0), (15, .int .i64 v0_2)] [(1, .box 24 [.int .i64 s.1, .sl (.pair (.int .i64) (.pair (.int .i64) (.int .i64))) s.2]), (2, .box 24 [.int .i64 0, .cv (.slice none 0 0)])] ?_
  refine zB [(1, .bp 1 0), (2, .bp 2 0), (4, .own 16)] [(1, .box 24 [.int .i64 s.1, .sl (.pair (.int .i64) (.pair (.int .i64) (.int .i64))) s.2]), (2, .box 24 [.int .i64 0, .cv (.slice none 0 0)]), (16, .arr 3 (.int .i64) [v0_2])] ?_
  refine zo ?_
  refine zB [(1, .bp 1 0), (2, .bp 2 0), (4, .own 16), (5, .bp 5 0)] [(1, .box 24 [.int .i64 s.1, .sl (.pair (.int .i64) (.pair (.int .i64) (.int .i64))) s.2]), (2, .box 24 [.int .i64 0, .cv (.slice none 0 0)]), (5, .box 24 [.int .i64 0, .cv (.slice none 0 0)]), (16, .arr 3 (.int .i64) [v0_2])] ?_
  refine AW.have1 (fun b5_4 : (List Int) × (List (Int × Int × Int)) => linealref05_Seen_k1 b5_4 = some r) (fun b5_4 => ⟨fr [(2, .bp 2 0), (4, .own 16), (5, .bp 5 0)], hpGet [(2, .box 24 [.int .i64 0, .cv (.slice none 0 0)]), (5, .box 24 [.int .i64 0, .own 65]), (16, .arr 3 (.int .i64) b5_4.1), (65, .arr 66 (.pair (.int .i64) (.pair (.int .i64) (.int .i64))) b5_4.2)], gt⟩) (fun b5_4 h => ?_) (fun hk_linealref05_Seen_k1 => ?_)
  ·as_aux_lemma =>
    unfold linealref05_Seen_k1 at h
    refine zo ?_
    refine zB [(2, .bp 2 0), (5, .bp 5 0)] [(2, .box 24 [.int .i64 0, .cv (.slice none 0 0)]), (5, .box 24 [.int .i64 (b5_4.1.length : Int), .own 65]), (65, .arr 66 (.pair (.int .i64) (.pair (.int .i64) (.int .i64))) b5_4.2)] ?_
    refine AW.seq ?_
    refine zo ?_
    refine zB [(2, .bp 2 0), (5, .bp 5 0), (72, .bool (decide (6 < (b5_4.1.length : Int))))] [(2, .box 24 [.int .i64 0, .cv (.slice none 0 0)]), (5, .box 24 [.int .i64 (b5_4.1.length : Int), .own 65]), (65, .arr 66 (.pair (.int .i64) (.pair (.int .i64) (.int .i64))) b5_4.2)] ?_
    refine zQ h (fun hb4 h => ?_) (fun hb4 h => ?_)
    ·refine zo ?_
     refine zB [(2, .bp 2 0), (3, .int .i64 4)] [(2, .box 24 [.int .i64 0, .cv (.slice none 0 0)])] ?_
     refine zr ?_
     obtain rfl := Option.some.inj h
     exact zR [] [2000] []
    ·refine zk ?_
     refine zo ?_
     refine zB [(2, .bp 2 0), (3, .int .i64 0)] [(2, .box 24 [.int .i64 (b5_4.1.length : Int), .own 65]), (65, .arr 66 (.pair (.int .i64) (.pair (.int .i64) (.int .i64))) b5_4.2)] ?_
     refine AW.ret ?_
     obtain rfl := Option.some.inj h
     exact zR [] [] [(2000, 65)]
  ·refine AW.seq ?_
   refine zo ?_
   refine zB [(1, .bp 1 0), (2, .bp 2 0), (4, .own 16), (5, .bp 5 0), (6, .int .i64 0)] [(1, .box 24 [.int .i64 s.1, .sl (.pair (.int .i64) (.pair (.int .i64) (.int .i64))) s.2]), (2, .box 24 [.int .i64 0, .cv (.slice none 0 0)]), (5, .box 24 [.int .i64 0, .cv (.slice none 0 0)]), (16, .arr 3 (.int .i64) [v0_2])] ?_
   refine AW.block ?_
   obtain ⟨rv9, hw5, ho6⟩ := Option.bind_eq_some_iff.1 h
   refine AW.loopO (linealref05_Seen_b1 s) (fun st1 => ⟨fr [(1, .bp 1 0), (2, .bp 2 0), (4, .own 16), (5, .bp 5 0), (6, .int .i64 st1.2.2)], hpGet [(1, .box 24 [.int .i64 s.1, .sl (.pair (.int .i64) (.pair (.int .i64) (.int .i64))) s.2]), (2, .box 24 [.int .i64 0, .cv (.slice none 0 0)]), (5, .box 24 [.int .i64 0, .own 65]), (16, .arr 3 (.int .i64) st1.1), (65, .arr 66 (.pair (.int .i64) (.pair (.int .i64) (.int .i64))) st1.2.1)], gt⟩) ([v0_2], [], 0) hw5 (zL [] [65] []) ?_
   as_aux_lemma =>
    intro st1 x8 h hd7
    unfold linealref05_Seen_b1 at h
    refine AW.seq ?_
    refine zo ?_
    refine zB [(1, .bp 1 0), (2, .bp 2 0), (4, .own 16), (5, .bp 5 0), (6, .int .i64 st1.2.2), (20, .bool (decide (st1.2.2 < (st1.1.length : Int))))] [(1, .box 24 [.int .i64 s.1, .sl (.pair (.int .i64) (.pair (.int .i64) (.int .i64))) s.2]), (2, .box 24 [.int .i64 0, .cv (.slice none 0 0)]), (5, .box 24 [.int .i64 0, .own 65]), (16, .arr 3 (.int .i64) st1.1), (65, .arr 66 (.pair (.int .i64) (.pair (.int .i64) (.int .i64))) st1.2.1)] ?_
    refine zQ h (fun hb10 h => ?_) (fun hb10 h => ?_)
    ·refine zk ?_
     refine AW.have1 (fun b5_3 : (List Int) × (List (Int × Int × Int)) => linealref05_Seen_k2 st1 b5_3 = some x8) (fun b5_3 => ⟨fr [(1, .bp 1 0), (2, .bp 2 0), (4, .own 16), (5, .bp 5 0), (6, .int .i64 st1.2.2)], hpGet [(1, .box 24 [.int .i64 s.1, .sl (.pair (.int .i64) (.pair (.int .i64) (.int .i64))) s.2]), (2, .box 24 [.int .i64 0, .cv (.slice none 0 0)]), (5, .box 24 [.int .i64 0, .own 65]), (16, .arr 3 (.int .i64) b5_3.1), (65, .arr 66 (.pair (.int .i64) (.pair (.int .i64) (.int .i64))) b5_3.2)], gt⟩) (fun b5_3 h => ?_) (fun hk_linealref05_Seen_k2 => ?_)
     ·as_aux_lemma =>
       unfold linealref05_Seen_k2 at h
       refine AW.ops ?_
       obtain ⟨c11, h⟩ := ck_some.1 h
       refine zA [(1, .bp 1 0), (2, .bp 2 0), (4, .own 16), (5, .bp 5 0), (6, .int .i64 (st1.2.2 + 1))] [(1, .box 24 [.int .i64 s.1, .sl (.pair (.int .i64) (.pair (.int .i64) (.int .i64))) s.2]), (2, .box 24 [.int .i64 0, .cv (.slice none 0 0)]), (5, .box 24 [.int .i64 0, .own 65]), (16, .arr 3 (.int .i64) b5_3.1), (65, .arr 66 (.pair (.int .i64) (.pair (.int .i64) (.int .i64))) b5_3.2)] ?_
       obtain rfl := Option.some.inj h
       exact ⟨_, rfl, zL [] [] []⟩
     ·refine AW.seq ?_
      refine AW.block ?_
      refine zo ?_
      refine zB [(1, .bp 1 0), (2, .bp 2 0), (4, .own 16), (5, .bp 5 0), (6, .int .i64 st1.2.2), (7, .int .i64 1)] [(1, .box 24 [.int .i64 s.1, .sl (.pair (.int .i64) (.pair (.int .i64) (.int .i64))) s.2]), (2, .box 24 [.int .i64 0, .cv (.slice none 0 0)]), (5, .box 24 [.int .i64 0, .own 65]), (16, .arr 3 (.int .i64) st1.1), (65, .arr 66 (.pair (.int .i64) (.pair (.int .i64) (.int .i64))) st1.2.1)] ?_
      refine AW.block ?_
      obtain ⟨rv16, hw12, ho13⟩ := Option.bind_eq_some_iff.1 h
      refine AW.loopO (linealref05_Seen_b2 s st1) (fun st2 => ⟨fr [(1, .bp 1 0), (2, .bp 2 0), (4, .own 16), (5, .bp 5 0), (6, .int .i64 st1.2.2), (7, .int .i64 st2.2.2)], hpGet [(1, .box 24 [.int .i64 s.1, .sl (.pair (.int .i64) (.pair (.int .i64) (.int .i64))) s.2]), (2, .box 24 [.int .i64 0, .cv (.slice none 0 0)]), (5, .box 24 [.int .i64 0, .own 65]), (16, .arr 3 (.int .i64) st2.1), (65, .arr 66 (.pair (.int .i64) (.pair (.int .i64) (.int .i64))) st2.2.1)], gt⟩) (st1.1, st1.2.1, 1) hw12 (zL [] [] []) ?_
      as_aux_lemma =>
       intro st2 x15 h hd14
       unfold linealref05_Seen_b2 at h
       refine AW.seq ?_
       refine zo ?_
       refine zB [(1, .bp 1 0), (2, .bp 2 0), (4, .own 16), (5, .bp 5 0), (6, .int .i64 st1.2.2), (7, .int .i64 st2.2.2), (24, .bool (decide (st2.2.2 ≤ 3)))] [(1, .box 24 [.int .i64 s.1, .sl (.pair (.int .i64) (.pair (.int .i64) (.int .i64))) s.2]), (2, .box 24 [.int .i64 0, .cv (.slice none 0 0)]), (5, .box 24 [.int .i64 0, .own 65]), (16, .arr 3 (.int .i64) st2.1), (65, .arr 66 (.pair (.int .i64) (.pair (.int .i64) (.int .i64))) st2.2.1)] ?_
       refine zQ h (fun hb17 h => ?_) (fun hb17 h => ?_)
       ·refine zk ?_
        refine AW.have1 (fun b5_2 : (List Int) × (List (Int × Int × Int)) => linealref05_Seen_k3 st2 b5_2 = some x15) (fun b5_2 => ⟨fr [(1, .bp 1 0), (2, .bp 2 0), (4, .own 16), (5, .bp 5 0), (6, .int .i64 st1.2.2), (7, .int .i64 st2.2.2)], hpGet [(1, .box 24 [.int .i64 s.1, .sl (.pair (.int .i64) (.pair (.int .i64) (.int .i64))) s.2]), (2, .box 24 [.int .i64 0, .cv (.slice none 0 0)]), (5, .box 24 [.int .i64 0, .own 65]), (16, .arr 3 (.int .i64) b5_2.1), (65, .arr 66 (.pair (.int .i64) (.pair (.int .i64) (.int .i64))) b5_2.2)], gt⟩) (fun b5_2 h => ?_) (fun hk_linealref05_Seen_k3 => ?_)
        ·as_aux_lemma =>
          unfold linealref05_Seen_k3 at h
          refine AW.ops ?_
          obtain ⟨c18, h⟩ := ck_some.1 h
          refine zA [(1, .bp 1 0), (2, .bp 2 0), (4, .own 16), (5, .bp 5 0), (6, .int .i64 st1.2.2), (7, .int .i64 (st2.2.2 + 1))] [(1, .box 24 [.int .i64 s.1, .sl (.pair (.int .i64) (.pair (.int .i64) (.int .i64))) s.2]), (2, .box 24 [.int .i64 0, .cv (.slice none 0 0)]), (5, .box 24 [.int .i64 0, .own 65]), (16, .arr 3 (.int .i64) b5_2.1), (65, .arr 66 (.pair (.int .i64) (.pair (.int .i64) (.int .i64))) b5_2.2)] ?_
          obtain rfl := Option.some.inj h
          exact ⟨_, rfl, zL [] [] []⟩
        ·refine AW.seq ?_
         refine AW.block ?_
         refine AW.seq ?_
         refine AW.draw tab_ok mixed_ok [] [] (by decide) (by kernel_rfl) ?_
         as_aux_lemma =>
          obtain ⟨c20, h⟩ := ck_some.1 h
          obtain ⟨c21, h⟩ := ck_some.1 h
          refine adops_cut 6 (fun K' hK19 => ?_)
          try dsimp only [List.drop_succ_cons, List.drop_zero, List.take_succ_cons, List.take_zero]
          simp only [go_sem, hb2, hb10, hb17]
          repeat with_reducible refine zN ?_
          refine hK19 _ ?_
          as_aux_lemma =>
           obtain ⟨v0_3, hv22, h⟩ := Option.bind_eq_some_iff.1 h
           refine adops.call (by first | trivial | rfl) rfl rfl rfl (fun _ h => h) [] [] (hc_linealref05_comes s (st2.1.getD st1.2.2.toNat 0) st2.2.2 hv22) rfl (by (simp only [go_sem, hb2, hb10, hb17]) <;> (with_reducible and_intros) <;> first | assumption | rfl | omega | (unfold maxLen; omega)) (by (simp only [go_sem, hb2, hb10, hb17]) <;> (with_reducible and_intros) <;> first | assumption | rfl | omega | (unfold maxLen; omega)) rfl ?_
           refine adops_cut 1 (fun K' hK23 => ?_)
           try dsimp only [List.drop_succ_cons, List.drop_zero, List.take_succ_cons, List.take_zero]
           simp only [go_sem, hb2, hb10, hb17]
           repeat with_reducible refine zN ?_
           refine hK23 _ ?_
           refine adops_nil ?_
           refine athen_n ?_
           refine zV [(1, .bp 1 0), (2, .bp 2 0), (4, .own 16), (5, .bp 5 0), (6, .int .i64 st1.2.2), (7, .int .i64 st2.2.2), (8, .int .i64 v0_3)] [(1, .box 24 [.int .i64 s.1, .sl (.pair (.int .i64) (.pair (.int .i64) (.int .i64))) s.2]), (2, .box 24 [.int .i64 0, .cv (.slice none 0 0)]), (5, .box 24 [.int .i64 0, .own 65]), (16, .arr 3 (.int .i64) st2.1), (65, .arr 66 (.pair (.int .i64) (.pair (.int .i64) (.int .i64))) st2.2.1)] gt ?_
           as_aux_lemma =>
            refine AW.seq ?_
            refine zo ?_
            refine zB [(1, .bp 1 0), (2, .bp 2 0), (4, .own 16), (5, .bp 5 0), (6, .int .i64 st1.2.2), (7, .int .i64 st2.2.2), (8, .int .i64 v0_3), (35, .bool (decide (v0_3 = 0)))] [(1, .box 24 [.int .i64 s.1, .sl (.pair (.int .i64) (.pair (.int .i64) (.int .i64))) s.2]), (2, .box 24 [.int .i64 0, .cv (.slice none 0 0)]), (5, .box 24 [.int .i64 0, .own 65]), (16, .arr 3 (.int .i64) st2.1), (65, .arr 66 (.pair (.int .i64) (.pair (.int .i64) (.int .i64))) st2.2.1)] ?_
            refine zQ h (fun hb24 h => ?_) (fun hb24 h => ?_)
            ·refine AW.exit ?_
             refine athen_e ?_
             refine ablock_s ?_
             refine athen_n ?_
             exact AW.weaken (zL [] [] []) (hk_linealref05_Seen_k3 _ h)
            ·refine zk ?_
             refine zo ?_
             refine zB [(1, .bp 1 0), (2, .bp 2 0), (4, .own 16), (5, .bp 5 0), (6, .int .i64 st1.2.2), (7, .int .i64 st2.2.2), (8, .int .i64 v0_3), (9, .int .i64 0)] [(1, .box 24 [.int .i64 s.1, .sl (.pair (.int .i64) (.pair (.int .i64) (.int .i64))) s.2]), (2, .box 24 [.int .i64 0, .cv (.slice none 0 0)]), (5, .box 24 [.int .i64 0, .own 65]), (16, .arr 3 (.int .i64) st2.1), (65, .arr 66 (.pair (.int .i64) (.pair (.int .i64) (.int .i64))) st2.2.1)] ?_
             refine AW.have1 (fun b4 : Int => linealref05_Seen_k4 st1 st2 v0_3 b4 = some x15) (fun b4 => ⟨fr [(1, .bp 1 0), (2, .bp 2 0), (4, .own 16), (5, .bp 5 0), (6, .int .i64 st1.2.2), (7, .int .i64 st2.2.2), (8, .int .i64 v0_3), (9, .int .i64 b4)], hpGet [(1, .box 24 [.int .i64 s.1, .sl (.pair (.int .i64) (.pair (.int .i64) (.int .i64))) s.2]), (2, .box 24 [.int .i64 0, .cv (.slice none 0 0)]), (5, .box 24 [.int .i64 0, .own 65]), (16, .arr 3 (.int .i64) st2.1), (65, .arr 66 (.pair (.int .i64) (.pair (.int .i64) (.int .i64))) st2.2.1)], gt⟩) (fun b4 h => ?_) (fun hk_linealref05_Seen_k4 => ?_)
             ·as_aux_lemma =>
               unfold linealref05_Seen_k4 at h
               refine AW.have1 (fun b5 : (List Int) => linealref05_Seen_k5 st1 st2 b4 b5 = some x15) (fun b5 => ⟨fr [(1, .bp 1 0), (2, .bp 2 0), (4, .own 57), (5, .bp 5 0), (6, .int .i64 st1.2.2), (7, .int .i64 st2.2.2), (9, .int .i64 b4)], hpGet [(1, .box 24 [.int .i64 s.1, .sl (.pair (.int .i64) (.pair (.int .i64) (.int .i64))) s.2]), (2, .box 24 [.int .i64 0, .cv (.slice none 0 0)]), (5, .box 24 [.int .i64 0, .own 65]), (57, .arr 3 (.int .i64) b5), (65, .arr 66 (.pair (.int .i64) (.pair (.int .i64) (.int .i64))) st2.2.1)], gt⟩) (fun b5 h => ?_) (fun hk_linealref05_Seen_k5 => ?_)
               ·as_aux_lemma =>
                 unfold linealref05_Seen_k5 at h
                 refine AW.ops ?_
                 refine zS 5 [(1, .bp 1 0), (2, .bp 2 0), (4, .own 57), (5, .bp 5 0), (6, .int .i64 st1.2.2), (7, .int .i64 st2.2.2), (59, .own 65), (60, .int .i64 st1.2.2), (61, .int .i64 st2.2.2), (62, .int .i64 b4)] [(1, .box 24 [.int .i64 s.1, .sl (.pair (.int .i64) (.pair (.int .i64) (.int .i64))) s.2]), (2, .box 24 [.int .i64 0, .cv (.slice none 0 0)]), (5, .box 24 [.int .i64 0, .own 65]), (57, .arr 3 (.int .i64) b5), (65, .arr 66 (.pair (.int .i64) (.pair (.int .i64) (.int .i64))) st2.2.1)] ?_
                 obtain ⟨c25, h⟩ := ck_some.1 h
                 refine zA [(1, .bp 1 0), (2, .bp 2 0), (4, .own 57), (5, .bp 5 0), (6, .int .i64 st1.2.2), (7, .int .i64 st2.2.2)] [(1, .box 24 [.int .i64 s.1, .sl (.pair (.int .i64) (.pair (.int .i64) (.int .i64))) s.2]), (2, .box 24 [.int .i64 0, .cv (.slice none 0 0)]), (5, .box 24 [.int .i64 0, .own 65]), (57, .arr 3 (.int .i64) b5), (65, .arr 66 (.pair (.int .i64) (.pair (.int .i64) (.int .i64))) (st2.2.1 ++ [(st1.2.2, st2.2.2, b4)]))] ?_
                 refine ablock_n ?_
                 refine athen_n ?_
                 exact AW.weaken (zL [] [] [(16, 57)]) (hk_linealref05_Seen_k3 _ h)
               ·refine AW.seq ?_
                refine zo ?_
                refine zB [(1, .bp 1 0), (2, .bp 2 0), (4, .own 16), (5, .bp 5 0), (6, .int .i64 st1.2.2), (7, .int .i64 st2.2.2), (8, .int .i64 v0_3), (9, .int .i64 b4), (53, .bool (decide (b4 = (st2.1.length : Int))))] [(1, .box 24 [.int .i64 s.1, .sl (.pair (.int .i64) (.pair (.int .i64) (.int .i64))) s.2]), (2, .box 24 [.int .i64 0, .cv (.slice none 0 0)]), (5, .box 24 [.int .i64 0, .own 65]), (16, .arr 3 (.int .i64) st2.1), (65, .arr 66 (.pair (.int .i64) (.pair (.int .i64) (.int .i64))) st2.2.1)] ?_
                refine zQ h (fun hb26 h => ?_) (fun hb26 h => ?_)
                ·refine AW.ops ?_
                 obtain ⟨c27, h⟩ := ck_some.1 h
                 refine zB [(1, .bp 1 0), (2, .bp 2 0), (4, .own 57), (5, .bp 5 0), (6, .int .i64 st1.2.2), (7, .int .i64 st2.2.2), (9, .int .i64 b4)] [(1, .box 24 [.int .i64 s.1, .sl (.pair (.int .i64) (.pair (.int .i64) (.int .i64))) s.2]), (2, .box 24 [.int .i64 0, .cv (.slice none 0 0)]), (5, .box 24 [.int .i64 0, .own 65]), (57, .arr 3 (.int .i64) (st2.1 ++ [v0_3])), (65, .arr 66 (.pair (.int .i64) (.pair (.int .i64) (.int .i64))) st2.2.1)] ?_
                 exact AW.weaken (zL [] [] []) (hk_linealref05_Seen_k5 _ h)
                ·refine zk ?_
                 exact AW.weaken (zL [] [] [(57, 16)]) (hk_linealref05_Seen_k5 _ h)
             ·refine AW.seq ?_
              refine AW.block ?_
              obtain ⟨rv32, hw28, ho29⟩ := Option.bind_eq_some_iff.1 h
              refine AW.loopO (linealref05_Seen_b3 st2 v0_3) (fun st3 => ⟨fr [(1, .bp 1 0), (2, .bp 2 0), (4, .own 16), (5, .bp 5 0), (6, .int .i64 st1.2.2), (7, .int .i64 st2.2.2), (8, .int .i64 v0_3), (9, .int .i64 st3)], hpGet [(1, .box 24 [.int .i64 s.1, .sl (.pair (.int .i64) (.pair (.int .i64) (.int .i64))) s.2]), (2, .box 24 [.int .i64 0, .cv (.slice none 0 0)]), (5, .box 24 [.int .i64 0, .own 65]), (16, .arr 3 (.int .i64) st2.1), (65, .arr 66 (.pair (.int .i64) (.pair (.int .i64) (.int .i64))) st2.2.1)], gt⟩) 0 hw28 (zL [] [] []) ?_
              as_aux_lemma =>
               intro st3 x31 h hd30
               unfold linealref05_Seen_b3 at h
               refine AW.seq ?_
               refine zo ?_
               refine zS 5 [(1, .bp 1 0), (2, .bp 2 0), (4, .own 16), (5, .bp 5 0), (6, .int .i64 st1.2.2), (7, .int .i64 st2.2.2), (8, .int .i64 v0_3), (9, .int .i64 st3), (40, .bool (decide (st3 < (st2.1.length : Int))))] [(1, .box 24 [.int .i64 s.1, .sl (.pair (.int .i64) (.pair (.int .i64) (.int .i64))) s.2]), (2, .box 24 [.int .i64 0, .cv (.slice none 0 0)]), (5, .box 24 [.int .i64 0, .own 65]), (16, .arr 3 (.int .i64) st2.1), (65, .arr 66 (.pair (.int .i64) (.pair (.int .i64) (.int .i64))) st2.2.1)] ?_
               rcases zI h with ⟨hb33, h⟩ | ⟨hb33, h⟩
               ·obtain ⟨c34, h⟩ := ck_some.1 h
                obtain ⟨c35, h⟩ := ck_some.1 h
                refine zS 5 [(1, .bp 1 0), (2, .bp 2 0), (4, .own 16), (5, .bp 5 0), (6, .int .i64 st1.2.2), (7, .int .i64 st2.2.2), (8, .int .i64 v0_3), (9, .int .i64 st3), (40, .bool true), (44, .int .i64 (st2.1.getD st3.toNat 0)), (45, .int .i64 v0_3)] [(1, .box 24 [.int .i64 s.1, .sl (.pair (.int .i64) (.pair (.int .i64) (.int .i64))) s.2]), (2, .box 24 [.int .i64 0, .cv (.slice none 0 0)]), (5, .box 24 [.int .i64 0, .own 65]), (16, .arr 3 (.int .i64) st2.1), (65, .arr 66 (.pair (.int .i64) (.pair (.int .i64) (.int .i64))) st2.2.1)] ?_
                refine zB [(1, .bp 1 0), (2, .bp 2 0), (4, .own 16), (5, .bp 5 0), (6, .int .i64 st1.2.2), (7, .int .i64 st2.2.2), (8, .int .i64 v0_3), (9, .int .i64 st3), (47, .bool (!(decide ((st2.1.getD st3.toNat 0) = v0_3))))] [(1, .box 24 [.int .i64 s.1, .sl (.pair (.int .i64) (.pair (.int .i64) (.int .i64))) s.2]), (2, .box 24 [.int .i64 0, .cv (.slice none 0 0)]), (5, .box 24 [.int .i64 0, .own 65]), (16, .arr 3 (.int .i64) st2.1), (65, .arr 66 (.pair (.int .i64) (.pair (.int .i64) (.int .i64))) st2.2.1)] ?_
                refine zQ h (fun hb36 h => ?_) (fun hb36 h => ?_)
                ·refine zk ?_
                 refine AW.block ?_
                 refine AW.ops ?_
                 obtain ⟨c37, h⟩ := ck_some.1 h
                 refine zA [(1, .bp 1 0), (2, .bp 2 0), (4, .own 16), (5, .bp 5 0), (6, .int .i64 st1.2.2), (7, .int .i64 st2.2.2), (8, .int .i64 v0_3), (9, .int .i64 (st3 + 1))] [(1, .box 24 [.int .i64 s.1, .sl (.pair (.int .i64) (.pair (.int .i64) (.int .i64))) s.2]), (2, .box 24 [.int .i64 0, .cv (.slice none 0 0)]), (5, .box 24 [.int .i64 0, .own 65]), (16, .arr 3 (.int .i64) st2.1), (65, .arr 66 (.pair (.int .i64) (.pair (.int .i64) (.int .i64))) st2.2.1)] ?_
                 refine ablock_n ?_
                 obtain rfl := Option.some.inj h
                 exact ⟨_, rfl, zL [] [] []⟩
                ·refine AW.exit ?_
                 refine athen_e ?_
                 obtain rfl := Option.some.inj h
                 rw [← hd30 _ rfl] at ho29
                 have h := ho29
                 refine athen_e ?_
                 refine ablock_s ?_
                 refine athen_n ?_
                 exact AW.weaken (zL [] [] []) (hk_linealref05_Seen_k4 _ h)
               ·refine zS 4 [(1, .bp 1 0), (2, .bp 2 0), (4, .own 16), (5, .bp 5 0), (6, .int .i64 st1.2.2), (7, .int .i64 st2.2.2), (8, .int .i64 v0_3), (9, .int .i64 st3), (40, .bool false), (44, .cv (undef))] [(1, .box 24 [.int .i64 s.1, .sl (.pair (.int .i64) (.pair (.int .i64) (.int .i64))) s.2]), (2, .box 24 [.int .i64 0, .cv (.slice none 0 0)]), (5, .box 24 [.int .i64 0, .own 65]), (16, .arr 3 (.int .i64) st2.1), (65, .arr 66 (.pair (.int .i64) (.pair (.int .i64) (.int .i64))) st2.2.1)] ?_
                refine zB [(1, .bp 1 0), (2, .bp 2 0), (4, .own 16), (5, .bp 5 0), (6, .int .i64 st1.2.2), (7, .int .i64 st2.2.2), (8, .int .i64 v0_3), (9, .int .i64 st3), (47, .bool false)] [(1, .box 24 [.int .i64 s.1, .sl (.pair (.int .i64) (.pair (.int .i64) (.int .i64))) s.2]), (2, .box 24 [.int .i64 0, .cv (.slice none 0 0)]), (5, .box 24 [.int .i64 0, .own 65]), (16, .arr 3 (.int .i64) st2.1), (65, .arr 66 (.pair (.int .i64) (.pair (.int .i64) (.int .i64))) st2.2.1)] ?_
                refine AW.cond (b := false) rfl (fun hb38 => by cases hb38) (fun _ => ?_)
                refine AW.exit ?_
                refine athen_e ?_
                obtain rfl := Option.some.inj h
                rw [← hd30 _ rfl] at ho29
                have h := ho29
                refine athen_e ?_
                refine ablock_s ?_
                refine athen_n ?_
                exact AW.weaken (zL [] [] []) (hk_linealref05_Seen_k4 _ h)
       ·refine AW.exit ?_
        refine athen_e ?_
        obtain rfl := Option.some.inj h
        rw [← hd14 _ rfl] at ho13
        have h := ho13
        refine athen_e ?_
        refine ablock_s ?_
        refine ablock_n ?_
        refine athen_n ?_
        exact AW.weaken (zL [] [] []) (hk_linealref05_Seen_k2 _ h)
    ·refine AW.exit ?_
     refine athen_e ?_
     obtain rfl := Option.some.inj h
     rw [← hd7 _ rfl] at ho6
     have h := ho6
     refine athen_e ?_
     refine ablock_s ?_
     refine athen_n ?_
     exact AW.weaken (zL [] [] []) (hk_linealref05_Seen_k1 _ h)

end Go.Proofs.Ytljonmpcehlpaaa
