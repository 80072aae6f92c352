/-
  Made by wip/tool/dc.py out of the print of the program: contracts.
-/
import Derived.Test.YtcgflignbhmoaaaQp
import Derived.Test.YtcgflignbhmoaaaShs
import Derived.Test.YtcgflignbhmoaaaAvd
import Derived.Test.YtcgflignbhmoaaaMyc1
import Derived.Test.YtcgflignbhmoaaaMyc2
namespace Go.Proofs.Ytcgflignbhmoaaa
open Go.RowKit

set_option linter.unusedSimpArgs false
set_option linter.unusedVariables false
set_option linter.constructorNameAsVariable false

set_option maxRecDepth 100000
set_option maxHeartbeats 2000000

theorem hc_spec_Word (s : Int × Int × (List (List Int)) × (List (List Int))) (a : Int) (b : Int) {r : (List Int) × Int} (h : spec_Word s a b = some r) : HC Try.prog 27 [] [.agg [.int .i64 s.1, .int .i64 s.2.1, .sl (.sl (.int .i64)) s.2.2.1, .sl (.sl (.int .i64)) s.2.2.2], .int .i64 a, .int .i64 b] [(2000, .arr 3 (.int .i64) r.1)] (.tup [.own 2000, .int .i64 r.2]) := by
 unfold spec_Word at h
 refine zH Try.func27 [.tmp 6, .tmp 7] 35 ?_
 refine zo ?_
 refine zB [(1, .int .i64 a), (2, .int .i64 b), (3, .bp 3 0)] [(3, .box 24 [.int .i64 s.1, .int .i64 s.2.1, .sl (.sl (.int .i64)) s.2.2.1, .sl (.sl (.int .i64)) s.2.2.2])] ?_
 refine zo ?_
 refine zS 4 [(1, .int .i64 a), (2, .int .i64 b), (13, .agg [.int .i64 s.1, .int .i64 s.2.1, .sl (.sl (.int .i64)) s.2.2.1, .sl (.sl (.int .i64)) s.2.2.2]), (16, .own 16)] [(16, .arr 3 (.int .i64) [a, b])] ?_
 obtain ⟨v0, hv1, h⟩ := Option.bind_eq_some_iff.1 h
 refine zC [16] [] (hc_spec_checked s [a, b] hv1) [(1, .int .i64 a), (2, .int .i64 b), (17, .tup [.agg [.int .i64 v0.1, .int .i64 v0.2.1, .sl (.sl (.int .i64)) v0.2.2.1, .sl (.sl (.int .i64)) v0.2.2.2.1], .int .i64 v0.2.2.2.2])] [] ?_
 refine zS 5 [(1, .int .i64 a), (2, .int .i64 b), (8, .bp 8 0), (19, .int .i64 v0.2.2.2.2)] [(8, .box 60 [.int .i64 v0.1, .int .i64 v0.2.1, .sl (.sl (.int .i64)) v0.2.2.1, .sl (.sl (.int .i64)) v0.2.2.2.1])] ?_
 refine zB [(1, .int .i64 a), (2, .int .i64 b), (8, .bp 8 0), (9, .int .i64 v0.2.2.2.2)] [(8, .box 60 [.int .i64 v0.1, .int .i64 v0.2.1, .sl (.sl (.int .i64)) v0.2.2.1, .sl (.sl (.int .i64)) v0.2.2.2.1])] ?_
 refine AW.seq ?_
 refine zo ?_
 refine zB [(1, .int .i64 a), (2, .int .i64 b), (8, .bp 8 0), (9, .int .i64 v0.2.2.2.2), (21, .bool (!(decide (v0.2.2.2.2 = 0))))] [(8, .box 60 [.int .i64 v0.1, .int .i64 v0.2.1, .sl (.sl (.int .i64)) v0.2.2.1, .sl (.sl (.int .i64)) v0.2.2.2.1])] ?_
 refine zQ h (fun hb2 h => ?_) (fun hb2 h => ?_)
 ·refine zo ?_
  refine zB [(6, .cv (.slice none 0 0)), (7, .int .i64 v0.2.2.2.2)] [] ?_
  refine zr ?_
  obtain rfl := Option.some.inj h
  exact zR [] [2000] []
 ·refine zk ?_
  refine zo ?_
  refine zS 5 [(24, .agg [.int .i64 v0.1, .int .i64 v0.2.1, .sl (.sl (.int .i64)) v0.2.2.1, .sl (.sl (.int .i64)) v0.2.2.2.1]), (25, .agg [.int .i64 v0.1, .int .i64 v0.2.1, .sl (.sl (.int .i64)) v0.2.2.1, .sl (.sl (.int .i64)) v0.2.2.2.1]), (28, .agg [.int .i64 a, .int .i64 b])] [] ?_
  obtain ⟨v0_2, hv3, h⟩ := Option.bind_eq_some_iff.1 h
  refine zC [] [] (hc_spec_apart (v0.1, v0.2.1, v0.2.2.1, v0.2.2.2.1) (v0.1, v0.2.1, v0.2.2.1, v0.2.2.2.1) (a, b) hv3) [(29, .tup [.own 39000, .bool v0_2.2])] [(39000, .arr 3 (.int .i64) v0_2.1)] ?_
  refine zB [(10, .own 39000), (11, .bool v0_2.2)] [(39000, .arr 3 (.int .i64) v0_2.1)] ?_
  refine AW.seq ?_
  refine zo ?_
  refine zB [(10, .own 39000), (33, .bool (!v0_2.2))] [(39000, .arr 3 (.int .i64) v0_2.1)] ?_
  refine zQ h (fun hb4 h => ?_) (fun hb4 h => ?_)
  ·refine zo ?_
   refine zB [(6, .cv (.slice none 0 0)), (7, .int .i64 5)] [] ?_
   refine zr ?_
   obtain rfl := Option.some.inj h
   exact zR [] [2000] []
  ·refine zk ?_
   refine zo ?_
   refine zB [(6, .own 39000), (7, .int .i64 0)] [(39000, .arr 3 (.int .i64) v0_2.1)] ?_
   refine AW.ret ?_
   obtain rfl := Option.some.inj h
   exact zR [] [] [(2000, 39000)]

theorem hc_linealref01_SameInts (a : List Int) (b : List Int) {r : Bool} (h : linealref01_SameInts a b = some r) : HC Try.prog 24 [] [.sl (.int .i64) a, .sl (.int .i64) b] [] (.bool r) := by
 unfold linealref01_SameInts at h
 refine zH Try.func24 [.tmp 4] 26 ?_
 refine zo ?_
 refine zB [(0, .sl (.int .i64) a), (1, .sl (.int .i64) b)] [] ?_
 refine AW.seq ?_
 refine zo ?_
 refine zB [(0, .sl (.int .i64) a), (1, .sl (.int .i64) b), (10, .bool (!(decide ((a.length : Int) = (b.length : Int)))))] [] ?_
 refine zQ h (fun hb1 h => ?_) (fun hb1 h => ?_)
 ·refine zo ?_
  refine zB [(4, .bool false)] [] ?_
  refine zr ?_
  obtain rfl := Option.some.inj h
  exact zR [] [] []
 ·refine zk ?_
  refine AW.have1 (fun _ : Unit => linealref01_SameInts_k1 = some r) (fun _ => ⟨fr [], hpGet [], gt⟩) (fun _ h => ?_) (fun hk_linealref01_SameInts_k1 => ?_)
  ·as_aux_lemma =>
    unfold linealref01_SameInts_k1 at h
    refine zo ?_
    refine zB [(4, .bool true)] [] ?_
    refine AW.ret ?_
    obtain rfl := Option.some.inj h
    exact zR [] [] []
  ·refine AW.seq ?_
   refine zo ?_
   refine zB [(0, .sl (.int .i64) a), (1, .sl (.int .i64) b), (12, .int .i64 (a.length : Int)), (13, .int .i64 0)] [] ?_
   refine AW.block ?_
   obtain ⟨rv6, hw2, ho3⟩ := Option.bind_eq_some_iff.1 h
   refine AW.loopO (linealref01_SameInts_b1 a b) (fun st1 => ⟨fr [(0, .sl (.int .i64) a), (1, .sl (.int .i64) b), (12, .int .i64 (a.length : Int)), (13, .int .i64 st1)], hpGet [], gt⟩) 0 hw2 (zL [] [] []) ?_
   as_aux_lemma =>
    intro st1 x5 h hd4
    unfold linealref01_SameInts_b1 at h
    refine zo ?_
    refine zB [(0, .sl (.int .i64) a), (1, .sl (.int .i64) b), (12, .int .i64 (a.length : Int)), (13, .int .i64 st1), (14, .bool (decide (st1 < (a.length : Int))))] [] ?_
    refine AW.seq ?_
    refine zQ h (fun hb7 h => ?_) (fun hb7 h => ?_)
    ·refine zk ?_
     refine AW.seq ?_
     refine AW.block ?_
     refine zo ?_
     refine zB [(0, .sl (.int .i64) a), (1, .sl (.int .i64) b), (5, .int .i64 st1), (12, .int .i64 (a.length : Int)), (13, .int .i64 st1)] [] ?_
     refine AW.seq ?_
     refine AW.draw tab_ok mixed_ok [] [] (by decide) (lex_fast (by kernel_rfl)) ?_
     as_aux_lemma =>
      obtain ⟨c9, h⟩ := ck_some.1 h
      obtain ⟨c10, h⟩ := ck_some.1 h
      refine adops_cut 6 (fun K' hK8 => ?_)
      try dsimp only [List.drop_succ_cons, List.drop_zero, List.take_succ_cons, List.take_zero]
      simp only [go_sem, hb1, hb7]
      repeat with_reducible refine zN ?_
      refine hK8 _ ?_
      as_aux_lemma =>
       obtain ⟨c12, h⟩ := ck_some.1 h
       obtain ⟨c13, h⟩ := ck_some.1 h
       refine adops_cut 3 (fun K' hK11 => ?_)
       try dsimp only [List.drop_succ_cons, List.drop_zero, List.take_succ_cons, List.take_zero]
       simp only [go_sem, hb1, hb7]
       repeat with_reducible refine zN ?_
       refine hK11 _ ?_
       refine adops_nil ?_
       refine athen_n ?_
       refine zV [(0, .sl (.int .i64) a), (1, .sl (.int .i64) b), (12, .int .i64 (a.length : Int)), (13, .int .i64 st1), (24, .bool (!(decide ((a.getD st1.toNat 0) = (b.getD st1.toNat 0)))))] [] gt ?_
       as_aux_lemma =>
        refine zQ h (fun hb14 h => ?_) (fun hb14 h => ?_)
        ·refine zo ?_
         refine zB [(4, .bool false)] [] ?_
         refine AW.ret ?_
         refine ablock_r ?_
         refine athen_r ?_
         obtain rfl := Option.some.inj h
         rw [← hd4 _ rfl] at ho3
         have h := ho3
         try simp only at h
         refine athen_r ?_
         refine ablock_r ?_
         refine athen_r ?_
         obtain rfl := Option.some.inj h
         exact zR [] [] []
        ·refine zm ?_
         refine athen_n ?_
         refine AW.ops ?_
         obtain ⟨c15, h⟩ := ck_some.1 h
         refine zA [(0, .sl (.int .i64) a), (1, .sl (.int .i64) b), (12, .int .i64 (a.length : Int)), (13, .int .i64 (st1 + 1))] [] ?_
         obtain rfl := Option.some.inj h
         exact ⟨_, rfl, zL [] [] []⟩
    ·refine AW.exit ?_
     refine athen_e ?_
     obtain rfl := Option.some.inj h
     rw [← hd4 _ rfl] at ho3
     have h := ho3
     try simp only at h
     refine athen_e ?_
     refine ablock_s ?_
     refine athen_n ?_
     exact AW.weaken (zL [] [] []) (hk_linealref01_SameInts_k1 () h)

theorem hc_lineallaw01_Awake {r : Bool} (h : lineallaw01_Awake = some r) : HC Try.prog 17 [] [] [] (.bool r) := by
 unfold lineallaw01_Awake at h
 refine zH Try.func17 [.tmp 0] 23 ?_
 refine zo ?_
 refine zB [] [] ?_
 refine zo ?_
 refine zS 5 [(6, .own 6), (7, .own 7), (8, .own 8)] [(6, .arr 25 (.sl (.int .i64)) [[1, 0], [1, 1]]), (7, .arr 3 (.int .i64) [0, 0]), (8, .arr 3 (.int .i64) [0, 1])] ?_
 refine zB [(1, .bp 1 0)] [(1, .box 24 [.int .i64 2, .int .i64 2, .own 6, .own 9]), (6, .arr 25 (.sl (.int .i64)) [[1, 0], [1, 1]]), (9, .arr 25 (.sl (.int .i64)) [[0, 0], [0, 1]])] ?_
 refine zo ?_
 refine zS 1 [(12, .agg [.int .i64 2, .int .i64 2, .own 6, .own 9])] [(6, .arr 25 (.sl (.int .i64)) [[1, 0], [1, 1]]), (9, .arr 25 (.sl (.int .i64)) [[0, 0], [0, 1]])] ?_
 obtain ⟨v0, hv1, h⟩ := Option.bind_eq_some_iff.1 h
 refine zC [6, 9] [] (hc_spec_Word (2, 2, [[1, 0], [1, 1]], [[0, 0], [0, 1]]) 0 1 hv1) [(13, .tup [.own 23000, .int .i64 v0.2])] [(23000, .arr 3 (.int .i64) v0.1)] ?_
 refine zB [(2, .own 23000), (3, .int .i64 v0.2)] [(23000, .arr 3 (.int .i64) v0.1)] ?_
 refine zo ?_
 refine zS 3 [(2, .own 23000), (18, .bool (decide (v0.2 = 0)))] [(23000, .arr 3 (.int .i64) v0.1)] ?_
 rcases zI h with ⟨hb2, h⟩ | ⟨hb2, h⟩
 ·refine zS 2 [(18, .bool true), (19, .own 23000), (20, .own 20)] [(20, .arr 3 (.int .i64) [1]), (23000, .arr 3 (.int .i64) v0.1)] ?_
  obtain ⟨v0_2, hv3, h⟩ := Option.bind_eq_some_iff.1 h
  refine zG [20, 23000] [] (hc_linealref01_SameInts v0.1 [1] hv3) [(18, .bool true), (21, .bool v0_2)] [] ?_
  refine zB [(0, .bool v0_2)] [] ?_
  refine AW.ret ?_
  obtain rfl := Option.some.inj h
  exact zR [] [] []
 ·refine zB [(0, .bool false)] [] ?_
  refine AW.ret ?_
  obtain rfl := Option.some.inj h
  exact zR [] [] []

theorem hc_linealref01_isTable (s : Int × Int × (List (List Int)) × (List (List Int))) (l : List (List Int)) (limit : Int) {r : Bool} (h : linealref01_isTable s l limit = some r) : HC Try.prog 66 [] [.agg [.int .i64 s.1, .int .i64 s.2.1, .sl (.sl (.int .i64)) s.2.2.1, .sl (.sl (.int .i64)) s.2.2.2], .sl (.sl (.int .i64)) l, .int .i64 limit] [] (.bool r) := by
 unfold linealref01_isTable at h
 refine zH Try.func66 [.tmp 6] 42 ?_
 refine zo ?_
 refine zB [(1, .sl (.sl (.int .i64)) l), (2, .int .i64 limit), (3, .bp 3 0)] [(3, .box 24 [.int .i64 s.1, .int .i64 s.2.1, .sl (.sl (.int .i64)) s.2.2.1, .sl (.sl (.int .i64)) s.2.2.2])] ?_
 refine AW.seq ?_
 refine zo ?_
 refine zB [(1, .sl (.sl (.int .i64)) l), (2, .int .i64 limit), (3, .bp 3 0), (15, .bool (!(decide ((l.length : Int) = s.1))))] [(3, .box 24 [.int .i64 s.1, .int .i64 s.2.1, .sl (.sl (.int .i64)) s.2.2.1, .sl (.sl (.int .i64)) s.2.2.2])] ?_
 refine zQ h (fun hb1 h => ?_) (fun hb1 h => ?_)
 ·refine zo ?_
  refine zB [(6, .bool false)] [] ?_
  refine zr ?_
  obtain rfl := Option.some.inj h
  exact zR [] [] []
 ·refine zk ?_
  refine AW.have1 (fun _ : Unit => linealref01_isTable_k1 = some r) (fun _ => ⟨fr [], hpGet [], gt⟩) (fun _ h => ?_) (fun hk_linealref01_isTable_k1 => ?_)
  ·as_aux_lemma =>
    unfold linealref01_isTable_k1 at h
    refine zo ?_
    refine zB [(6, .bool true)] [] ?_
    refine AW.ret ?_
    obtain rfl := Option.some.inj h
    exact zR [] [] []
  ·refine AW.seq ?_
   refine zo ?_
   refine zB [(2, .int .i64 limit), (3, .bp 3 0), (16, .sl (.sl (.int .i64)) l), (17, .int .i64 (l.length : Int)), (18, .int .i64 0)] [(3, .box 24 [.int .i64 s.1, .int .i64 s.2.1, .sl (.sl (.int .i64)) s.2.2.1, .sl (.sl (.int .i64)) s.2.2.2])] ?_
   refine AW.block ?_
   obtain ⟨rv6, hw2, ho3⟩ := Option.bind_eq_some_iff.1 h
   refine AW.loopO (linealref01_isTable_b1 s l limit) (fun st1 => ⟨fr [(2, .int .i64 limit), (3, .bp 3 0), (16, .sl (.sl (.int .i64)) l), (17, .int .i64 (l.length : Int)), (18, .int .i64 st1)], hpGet [(3, .box 24 [.int .i64 s.1, .int .i64 s.2.1, .sl (.sl (.int .i64)) s.2.2.1, .sl (.sl (.int .i64)) s.2.2.2])], gt⟩) 0 hw2 (zL [] [] []) ?_
   as_aux_lemma =>
    intro st1 x5 h hd4
    unfold linealref01_isTable_b1 at h
    refine zo ?_
    refine zB [(2, .int .i64 limit), (3, .bp 3 0), (16, .sl (.sl (.int .i64)) l), (17, .int .i64 (l.length : Int)), (18, .int .i64 st1), (19, .bool (decide (st1 < (l.length : Int))))] [(3, .box 24 [.int .i64 s.1, .int .i64 s.2.1, .sl (.sl (.int .i64)) s.2.2.1, .sl (.sl (.int .i64)) s.2.2.2])] ?_
    refine AW.seq ?_
    refine zQ h (fun hb7 h => ?_) (fun hb7 h => ?_)
    ·refine zk ?_
     refine AW.have1 (fun _ : Unit => linealref01_isTable_k2 st1 = some x5) (fun _ => ⟨fr [(2, .int .i64 limit), (3, .bp 3 0), (16, .sl (.sl (.int .i64)) l), (17, .int .i64 (l.length : Int)), (18, .int .i64 st1)], hpGet [(3, .box 24 [.int .i64 s.1, .int .i64 s.2.1, .sl (.sl (.int .i64)) s.2.2.1, .sl (.sl (.int .i64)) s.2.2.2])], gt⟩) (fun _ h => ?_) (fun hk_linealref01_isTable_k2 => ?_)
     ·as_aux_lemma =>
       unfold linealref01_isTable_k2 at h
       refine AW.ops ?_
       obtain ⟨c8, h⟩ := ck_some.1 h
       refine zA [(2, .int .i64 limit), (3, .bp 3 0), (16, .sl (.sl (.int .i64)) l), (17, .int .i64 (l.length : Int)), (18, .int .i64 (st1 + 1))] [(3, .box 24 [.int .i64 s.1, .int .i64 s.2.1, .sl (.sl (.int .i64)) s.2.2.1, .sl (.sl (.int .i64)) s.2.2.2])] ?_
       obtain rfl := Option.some.inj h
       exact ⟨_, rfl, zL [] [] []⟩
     ·refine AW.seq ?_
      refine AW.block ?_
      refine zo ?_
      obtain ⟨c9, h⟩ := ck_some.1 h
      obtain ⟨c10, h⟩ := ck_some.1 h
      refine zB [(2, .int .i64 limit), (3, .bp 3 0), (8, .sl (.int .i64) (l.getD st1.toNat [])), (16, .sl (.sl (.int .i64)) l), (17, .int .i64 (l.length : Int)), (18, .int .i64 st1)] [(3, .box 24 [.int .i64 s.1, .int .i64 s.2.1, .sl (.sl (.int .i64)) s.2.2.1, .sl (.sl (.int .i64)) s.2.2.2])] ?_
      refine AW.seq ?_
      refine zo ?_
      refine zB [(2, .int .i64 limit), (3, .bp 3 0), (8, .sl (.int .i64) (l.getD st1.toNat [])), (16, .sl (.sl (.int .i64)) l), (17, .int .i64 (l.length : Int)), (18, .int .i64 st1), (26, .bool (!(decide (((l.getD st1.toNat []).length : Int) = s.2.1))))] [(3, .box 24 [.int .i64 s.1, .int .i64 s.2.1, .sl (.sl (.int .i64)) s.2.2.1, .sl (.sl (.int .i64)) s.2.2.2])] ?_
      refine zQ h (fun hb11 h => ?_) (fun hb11 h => ?_)
      ·refine zo ?_
       refine zB [(6, .bool false)] [] ?_
       refine zr ?_
       refine ablock_r ?_
       refine athen_r ?_
       obtain rfl := Option.some.inj h
       rw [← hd4 _ rfl] at ho3
       have h := ho3
       try simp only at h
       refine athen_r ?_
       refine ablock_r ?_
       refine athen_r ?_
       obtain rfl := Option.some.inj h
       exact zR [] [] []
      ·refine zk ?_
       refine zo ?_
       refine zB [(2, .int .i64 limit), (3, .bp 3 0), (16, .sl (.sl (.int .i64)) l), (17, .int .i64 (l.length : Int)), (18, .int .i64 st1), (27, .sl (.int .i64) (l.getD st1.toNat [])), (28, .int .i64 ((l.getD st1.toNat []).length : Int)), (29, .int .i64 0)] [(3, .box 24 [.int .i64 s.1, .int .i64 s.2.1, .sl (.sl (.int .i64)) s.2.2.1, .sl (.sl (.int .i64)) s.2.2.2])] ?_
       refine AW.block ?_
       obtain ⟨rv16, hw12, ho13⟩ := Option.bind_eq_some_iff.1 h
       refine AW.loopO (linealref01_isTable_b2 l limit st1) (fun st2 => ⟨fr [(2, .int .i64 limit), (3, .bp 3 0), (16, .sl (.sl (.int .i64)) l), (17, .int .i64 (l.length : Int)), (18, .int .i64 st1), (27, .sl (.int .i64) (l.getD st1.toNat [])), (28, .int .i64 ((l.getD st1.toNat []).length : Int)), (29, .int .i64 st2)], hpGet [(3, .box 24 [.int .i64 s.1, .int .i64 s.2.1, .sl (.sl (.int .i64)) s.2.2.1, .sl (.sl (.int .i64)) s.2.2.2])], gt⟩) 0 hw12 (zL [] [] []) ?_
       as_aux_lemma =>
        intro st2 x15 h hd14
        unfold linealref01_isTable_b2 at h
        refine zo ?_
        refine zB [(2, .int .i64 limit), (3, .bp 3 0), (16, .sl (.sl (.int .i64)) l), (17, .int .i64 (l.length : Int)), (18, .int .i64 st1), (27, .sl (.int .i64) (l.getD st1.toNat [])), (28, .int .i64 ((l.getD st1.toNat []).length : Int)), (29, .int .i64 st2), (30, .bool (decide (st2 < ((l.getD st1.toNat []).length : Int))))] [(3, .box 24 [.int .i64 s.1, .int .i64 s.2.1, .sl (.sl (.int .i64)) s.2.2.1, .sl (.sl (.int .i64)) s.2.2.2])] ?_
        refine AW.seq ?_
        refine zQ h (fun hb17 h => ?_) (fun hb17 h => ?_)
        ·refine zk ?_
         refine AW.seq ?_
         refine AW.block ?_
         refine zo ?_
         obtain ⟨c18, h⟩ := ck_some.1 h
         obtain ⟨c19, h⟩ := ck_some.1 h
         refine zB [(2, .int .i64 limit), (3, .bp 3 0), (10, .int .i64 ((l.getD st1.toNat []).getD st2.toNat 0)), (16, .sl (.sl (.int .i64)) l), (17, .int .i64 (l.length : Int)), (18, .int .i64 st1), (27, .sl (.int .i64) (l.getD st1.toNat [])), (28, .int .i64 ((l.getD st1.toNat []).length : Int)), (29, .int .i64 st2)] [(3, .box 24 [.int .i64 s.1, .int .i64 s.2.1, .sl (.sl (.int .i64)) s.2.2.1, .sl (.sl (.int .i64)) s.2.2.2])] ?_
         refine zo ?_
         refine zS 3 [(2, .int .i64 limit), (3, .bp 3 0), (10, .int .i64 ((l.getD st1.toNat []).getD st2.toNat 0)), (16, .sl (.sl (.int .i64)) l), (17, .int .i64 (l.length : Int)), (18, .int .i64 st1), (27, .sl (.int .i64) (l.getD st1.toNat [])), (28, .int .i64 ((l.getD st1.toNat []).length : Int)), (29, .int .i64 st2), (35, .bool (decide (((l.getD st1.toNat []).getD st2.toNat 0) < 0)))] [(3, .box 24 [.int .i64 s.1, .int .i64 s.2.1, .sl (.sl (.int .i64)) s.2.2.1, .sl (.sl (.int .i64)) s.2.2.2])] ?_
         rcases zI h with ⟨hb20, h⟩ | ⟨hb20, h⟩
         ·refine zB [(2, .int .i64 limit), (3, .bp 3 0), (16, .sl (.sl (.int .i64)) l), (17, .int .i64 (l.length : Int)), (18, .int .i64 st1), (27, .sl (.int .i64) (l.getD st1.toNat [])), (28, .int .i64 ((l.getD st1.toNat []).length : Int)), (29, .int .i64 st2), (39, .bool true)] [(3, .box 24 [.int .i64 s.1, .int .i64 s.2.1, .sl (.sl (.int .i64)) s.2.2.1, .sl (.sl (.int .i64)) s.2.2.2])] ?_
          refine AW.cond (b := true) rfl (fun _ => ?_) (fun hb21 => by cases hb21)
          refine zo ?_
          refine zB [(6, .bool false)] [] ?_
          refine AW.ret ?_
          refine ablock_r ?_
          refine athen_r ?_
          obtain rfl := Option.some.inj h
          rw [← hd14 _ rfl] at ho13
          have h := ho13
          try simp only at h
          refine athen_r ?_
          refine ablock_r ?_
          refine ablock_r ?_
          refine athen_r ?_
          obtain rfl := Option.some.inj h
          rw [← hd4 _ rfl] at ho3
          have h := ho3
          try simp only at h
          refine athen_r ?_
          refine ablock_r ?_
          refine athen_r ?_
          obtain rfl := Option.some.inj h
          exact zR [] [] []
         ·refine zB [(2, .int .i64 limit), (3, .bp 3 0), (16, .sl (.sl (.int .i64)) l), (17, .int .i64 (l.length : Int)), (18, .int .i64 st1), (27, .sl (.int .i64) (l.getD st1.toNat [])), (28, .int .i64 ((l.getD st1.toNat []).length : Int)), (29, .int .i64 st2), (39, .bool (decide (limit ≤ ((l.getD st1.toNat []).getD st2.toNat 0))))] [(3, .box 24 [.int .i64 s.1, .int .i64 s.2.1, .sl (.sl (.int .i64)) s.2.2.1, .sl (.sl (.int .i64)) s.2.2.2])] ?_
          refine zQ h (fun hb22 h => ?_) (fun hb22 h => ?_)
          ·refine zo ?_
           refine zB [(6, .bool false)] [] ?_
           refine AW.ret ?_
           refine ablock_r ?_
           refine athen_r ?_
           obtain rfl := Option.some.inj h
           rw [← hd14 _ rfl] at ho13
           have h := ho13
           try simp only at h
           refine athen_r ?_
           refine ablock_r ?_
           refine ablock_r ?_
           refine athen_r ?_
           obtain rfl := Option.some.inj h
           rw [← hd4 _ rfl] at ho3
           have h := ho3
           try simp only at h
           refine athen_r ?_
           refine ablock_r ?_
           refine athen_r ?_
           obtain rfl := Option.some.inj h
           exact zR [] [] []
          ·refine zm ?_
           refine athen_n ?_
           refine AW.ops ?_
           obtain ⟨c23, h⟩ := ck_some.1 h
           refine zA [(2, .int .i64 limit), (3, .bp 3 0), (16, .sl (.sl (.int .i64)) l), (17, .int .i64 (l.length : Int)), (18, .int .i64 st1), (27, .sl (.int .i64) (l.getD st1.toNat [])), (28, .int .i64 ((l.getD st1.toNat []).length : Int)), (29, .int .i64 (st2 + 1))] [(3, .box 24 [.int .i64 s.1, .int .i64 s.2.1, .sl (.sl (.int .i64)) s.2.2.1, .sl (.sl (.int .i64)) s.2.2.2])] ?_
           obtain rfl := Option.some.inj h
           exact ⟨_, rfl, zL [] [] []⟩
        ·refine AW.exit ?_
         refine athen_e ?_
         obtain rfl := Option.some.inj h
         rw [← hd14 _ rfl] at ho13
         have h := ho13
         try simp only at h
         refine athen_e ?_
         refine ablock_s ?_
         refine ablock_n ?_
         refine athen_n ?_
         exact AW.weaken (zL [] [] []) (hk_linealref01_isTable_k2 () h)
    ·refine AW.exit ?_
     refine athen_e ?_
     obtain rfl := Option.some.inj h
     rw [← hd4 _ rfl] at ho3
     have h := ho3
     try simp only at h
     refine athen_e ?_
     refine ablock_s ?_
     refine athen_n ?_
     exact AW.weaken (zL [] [] []) (hk_linealref01_isTable_k1 () h)

theorem hc_linealref01_Valid (s : Int × Int × (List (List Int)) × (List (List Int))) {r : Bool} (h : linealref01_Valid s = some r) : HC Try.prog 23 [] [.agg [.int .i64 s.1, .int .i64 s.2.1, .sl (.sl (.int .i64)) s.2.2.1, .sl (.sl (.int .i64)) s.2.2.2]] [] (.bool r) := by
 unfold linealref01_Valid at h
 refine zH Try.func23 [.tmp 2] 35 ?_
 refine zo ?_
 refine zB [(1, .bp 1 0)] [(1, .box 24 [.int .i64 s.1, .int .i64 s.2.1, .sl (.sl (.int .i64)) s.2.2.1, .sl (.sl (.int .i64)) s.2.2.2])] ?_
 refine zo ?_
 refine zS 4 [(1, .bp 1 0), (6, .bool (decide (1 ≤ s.1)))] [(1, .box 24 [.int .i64 s.1, .int .i64 s.2.1, .sl (.sl (.int .i64)) s.2.2.1, .sl (.sl (.int .i64)) s.2.2.2])] ?_
 rcases zI h with ⟨hb1, h⟩ | ⟨hb1, h⟩
 ·refine zS 5 [(1, .bp 1 0), (11, .bool (decide (s.1 ≤ 8)))] [(1, .box 24 [.int .i64 s.1, .int .i64 s.2.1, .sl (.sl (.int .i64)) s.2.2.1, .sl (.sl (.int .i64)) s.2.2.2])] ?_
  rcases zI h with ⟨hb2, h⟩ | ⟨hb2, h⟩
  ·refine zS 5 [(1, .bp 1 0), (16, .bool (decide (1 ≤ s.2.1)))] [(1, .box 24 [.int .i64 s.1, .int .i64 s.2.1, .sl (.sl (.int .i64)) s.2.2.1, .sl (.sl (.int .i64)) s.2.2.2])] ?_
   rcases zI h with ⟨hb3, h⟩ | ⟨hb3, h⟩
   ·refine zS 5 [(1, .bp 1 0), (21, .bool (decide (s.2.1 ≤ 4)))] [(1, .box 24 [.int .i64 s.1, .int .i64 s.2.1, .sl (.sl (.int .i64)) s.2.2.1, .sl (.sl (.int .i64)) s.2.2.2])] ?_
    rcases zI h with ⟨hb4, h⟩ | ⟨hb4, h⟩
    ·refine zS 5 [(1, .bp 1 0), (21, .bool true), (22, .agg [.int .i64 s.1, .int .i64 s.2.1, .sl (.sl (.int .i64)) s.2.2.1, .sl (.sl (.int .i64)) s.2.2.2]), (24, .sl (.sl (.int .i64)) s.2.2.1), (26, .int .i64 s.1)] [(1, .box 24 [.int .i64 s.1, .int .i64 s.2.1, .sl (.sl (.int .i64)) s.2.2.1, .sl (.sl (.int .i64)) s.2.2.2])] ?_
     obtain ⟨v0, hv5, h⟩ := Option.bind_eq_some_iff.1 h
     refine zG [] [] (hc_linealref01_isTable s s.2.2.1 s.1 hv5) [(1, .bp 1 0), (21, .bool true), (27, .bool v0)] [(1, .box 24 [.int .i64 s.1, .int .i64 s.2.1, .sl (.sl (.int .i64)) s.2.2.1, .sl (.sl (.int .i64)) s.2.2.2])] ?_
     refine zS 2 [(1, .bp 1 0), (29, .bool v0)] [(1, .box 24 [.int .i64 s.1, .int .i64 s.2.1, .sl (.sl (.int .i64)) s.2.2.1, .sl (.sl (.int .i64)) s.2.2.2])] ?_
     rcases zI h with ⟨hb6, h⟩ | ⟨hb6, h⟩
     ·refine zS 3 [(29, .bool true), (30, .agg [.int .i64 s.1, .int .i64 s.2.1, .sl (.sl (.int .i64)) s.2.2.1, .sl (.sl (.int .i64)) s.2.2.2]), (32, .sl (.sl (.int .i64)) s.2.2.2)] [] ?_
      obtain ⟨v0_2, hv7, h⟩ := Option.bind_eq_some_iff.1 h
      refine zG [] [] (hc_linealref01_isTable s s.2.2.2 6 hv7) [(29, .bool true), (33, .bool v0_2)] [] ?_
      refine zB [(2, .bool v0_2)] [] ?_
      refine AW.ret ?_
      obtain rfl := Option.some.inj h
      exact zR [] [] []
     ·refine zS 4 [(29, .bool false), (33, .cv (undef))] [] ?_
      refine zB [(2, .bool false)] [] ?_
      refine AW.ret ?_
      obtain rfl := Option.some.inj h
      exact zR [] [] []
    ·refine zS 4 [(1, .bp 1 0), (21, .bool false), (22, .cv (undef)), (24, .cv (undef)), (25, .cv (undef))] [(1, .box 24 [.int .i64 s.1, .int .i64 s.2.1, .sl (.sl (.int .i64)) s.2.2.1, .sl (.sl (.int .i64)) s.2.2.2])] ?_
     refine zS 5 [(1, .bp 1 0), (29, .bool false), (30, .cv (undef))] [(1, .box 24 [.int .i64 s.1, .int .i64 s.2.1, .sl (.sl (.int .i64)) s.2.2.1, .sl (.sl (.int .i64)) s.2.2.2])] ?_
     refine zB [(2, .bool false)] [] ?_
     refine AW.ret ?_
     obtain rfl := Option.some.inj h
     exact zR [] [] []
   ·refine zS 5 [(1, .bp 1 0), (21, .bool false)] [(1, .box 24 [.int .i64 s.1, .int .i64 s.2.1, .sl (.sl (.int .i64)) s.2.2.1, .sl (.sl (.int .i64)) s.2.2.2])] ?_
    refine zS 4 [(1, .bp 1 0), (21, .bool false), (22, .cv (undef)), (24, .cv (undef)), (25, .cv (undef))] [(1, .box 24 [.int .i64 s.1, .int .i64 s.2.1, .sl (.sl (.int .i64)) s.2.2.1, .sl (.sl (.int .i64)) s.2.2.2])] ?_
    refine zS 5 [(1, .bp 1 0), (29, .bool false), (30, .cv (undef))] [(1, .box 24 [.int .i64 s.1, .int .i64 s.2.1, .sl (.sl (.int .i64)) s.2.2.1, .sl (.sl (.int .i64)) s.2.2.2])] ?_
    refine zB [(2, .bool false)] [] ?_
    refine AW.ret ?_
    obtain rfl := Option.some.inj h
    exact zR [] [] []
  ·refine zS 5 [(1, .bp 1 0), (16, .bool false)] [(1, .box 24 [.int .i64 s.1, .int .i64 s.2.1, .sl (.sl (.int .i64)) s.2.2.1, .sl (.sl (.int .i64)) s.2.2.2])] ?_
   refine zS 5 [(1, .bp 1 0), (21, .bool false)] [(1, .box 24 [.int .i64 s.1, .int .i64 s.2.1, .sl (.sl (.int .i64)) s.2.2.1, .sl (.sl (.int .i64)) s.2.2.2])] ?_
   refine zS 4 [(1, .bp 1 0), (21, .bool false), (22, .cv (undef)), (24, .cv (undef)), (25, .cv (undef))] [(1, .box 24 [.int .i64 s.1, .int .i64 s.2.1, .sl (.sl (.int .i64)) s.2.2.1, .sl (.sl (.int .i64)) s.2.2.2])] ?_
   refine zS 5 [(1, .bp 1 0), (29, .bool false), (30, .cv (undef))] [(1, .box 24 [.int .i64 s.1, .int .i64 s.2.1, .sl (.sl (.int .i64)) s.2.2.1, .sl (.sl (.int .i64)) s.2.2.2])] ?_
   refine zB [(2, .bool false)] [] ?_
   refine AW.ret ?_
   obtain rfl := Option.some.inj h
   exact zR [] [] []
 ·refine zS 5 [(1, .bp 1 0), (11, .bool false)] [(1, .box 24 [.int .i64 s.1, .int .i64 s.2.1, .sl (.sl (.int .i64)) s.2.2.1, .sl (.sl (.int .i64)) s.2.2.2])] ?_
  refine zS 5 [(1, .bp 1 0), (16, .bool false)] [(1, .box 24 [.int .i64 s.1, .int .i64 s.2.1, .sl (.sl (.int .i64)) s.2.2.1, .sl (.sl (.int .i64)) s.2.2.2])] ?_
  refine zS 5 [(1, .bp 1 0), (21, .bool false)] [(1, .box 24 [.int .i64 s.1, .int .i64 s.2.1, .sl (.sl (.int .i64)) s.2.2.1, .sl (.sl (.int .i64)) s.2.2.2])] ?_
  refine zS 4 [(1, .bp 1 0), (21, .bool false), (22, .cv (undef)), (24, .cv (undef)), (25, .cv (undef))] [(1, .box 24 [.int .i64 s.1, .int .i64 s.2.1, .sl (.sl (.int .i64)) s.2.2.1, .sl (.sl (.int .i64)) s.2.2.2])] ?_
  refine zS 5 [(1, .bp 1 0), (29, .bool false), (30, .cv (undef))] [(1, .box 24 [.int .i64 s.1, .int .i64 s.2.1, .sl (.sl (.int .i64)) s.2.2.1, .sl (.sl (.int .i64)) s.2.2.2])] ?_
  refine zB [(2, .bool false)] [] ?_
  refine AW.ret ?_
  obtain rfl := Option.some.inj h
  exact zR [] [] []

theorem hc_linealref01_IsState (s : Int × Int × (List (List Int)) × (List (List Int))) (n : Int) {r : Bool} (h : linealref01_IsState s n = some r) : HC Try.prog 59 [] [.agg [.int .i64 s.1, .int .i64 s.2.1, .sl (.sl (.int .i64)) s.2.2.1, .sl (.sl (.int .i64)) s.2.2.2], .int .i64 n] [] (.bool r) := by
 unfold linealref01_IsState at h
 refine zH Try.func59 [.tmp 4] 13 ?_
 refine zo ?_
 refine zB [(1, .int .i64 n), (2, .bp 2 0)] [(2, .box 24 [.int .i64 s.1, .int .i64 s.2.1, .sl (.sl (.int .i64)) s.2.2.1, .sl (.sl (.int .i64)) s.2.2.2])] ?_
 refine zo ?_
 refine zS 3 [(1, .int .i64 n), (2, .bp 2 0), (7, .bool (decide (0 ≤ n)))] [(2, .box 24 [.int .i64 s.1, .int .i64 s.2.1, .sl (.sl (.int .i64)) s.2.2.1, .sl (.sl (.int .i64)) s.2.2.2])] ?_
 rcases zI h with ⟨hb1, h⟩ | ⟨hb1, h⟩
 ·refine zS 5 [(12, .bool (decide (n < s.1)))] [] ?_
  refine zB [(4, .bool (decide (n < s.1)))] [] ?_
  refine AW.ret ?_
  obtain rfl := Option.some.inj h
  exact zR [] [] []
 ·refine zS 4 [(7, .bool false), (11, .cv (undef))] [] ?_
  refine zB [(4, .bool false)] [] ?_
  refine AW.ret ?_
  obtain rfl := Option.some.inj h
  exact zR [] [] []

theorem hc_linealref01_asked (s : Int × Int × (List (List Int)) × (List (List Int))) (a : Int) (b : Int) {r : Int} (h : linealref01_asked s a b = some r) : HC Try.prog 62 [] [.agg [.int .i64 s.1, .int .i64 s.2.1, .sl (.sl (.int .i64)) s.2.2.1, .sl (.sl (.int .i64)) s.2.2.2], .int .i64 a, .int .i64 b] [] (.int .i64 r) := by
 unfold linealref01_asked at h
 refine zH Try.func62 [.tmp 6] 20 ?_
 refine zo ?_
 refine zB [(1, .int .i64 a), (2, .int .i64 b), (3, .bp 3 0)] [(3, .box 24 [.int .i64 s.1, .int .i64 s.2.1, .sl (.sl (.int .i64)) s.2.2.1, .sl (.sl (.int .i64)) s.2.2.2])] ?_
 refine AW.seq ?_
 refine zo ?_
 refine zS 1 [(1, .int .i64 a), (2, .int .i64 b), (3, .bp 3 0), (7, .agg [.int .i64 s.1, .int .i64 s.2.1, .sl (.sl (.int .i64)) s.2.2.1, .sl (.sl (.int .i64)) s.2.2.2])] [(3, .box 24 [.int .i64 s.1, .int .i64 s.2.1, .sl (.sl (.int .i64)) s.2.2.1, .sl (.sl (.int .i64)) s.2.2.2])] ?_
 obtain ⟨v0, hv1, h⟩ := Option.bind_eq_some_iff.1 h
 refine zC [] [] (hc_linealref01_Valid s hv1) [(1, .int .i64 a), (2, .int .i64 b), (3, .bp 3 0), (8, .bool v0)] [(3, .box 24 [.int .i64 s.1, .int .i64 s.2.1, .sl (.sl (.int .i64)) s.2.2.1, .sl (.sl (.int .i64)) s.2.2.2])] ?_
 refine zB [(1, .int .i64 a), (2, .int .i64 b), (3, .bp 3 0), (9, .bool (!v0))] [(3, .box 24 [.int .i64 s.1, .int .i64 s.2.1, .sl (.sl (.int .i64)) s.2.2.1, .sl (.sl (.int .i64)) s.2.2.2])] ?_
 refine zQ h (fun hb2 h => ?_) (fun hb2 h => ?_)
 ·refine zo ?_
  refine zB [(6, .int .i64 10)] [] ?_
  refine zr ?_
  obtain rfl := Option.some.inj h
  exact zR [] [] []
 ·refine zk ?_
  refine AW.seq ?_
  refine zo ?_
  refine zS 2 [(2, .int .i64 b), (3, .bp 3 0), (10, .agg [.int .i64 s.1, .int .i64 s.2.1, .sl (.sl (.int .i64)) s.2.2.1, .sl (.sl (.int .i64)) s.2.2.2]), (11, .int .i64 a)] [(3, .box 24 [.int .i64 s.1, .int .i64 s.2.1, .sl (.sl (.int .i64)) s.2.2.1, .sl (.sl (.int .i64)) s.2.2.2])] ?_
  obtain ⟨v0_2, hv3, h⟩ := Option.bind_eq_some_iff.1 h
  refine zC [] [] (hc_linealref01_IsState s a hv3) [(2, .int .i64 b), (3, .bp 3 0), (12, .bool v0_2)] [(3, .box 24 [.int .i64 s.1, .int .i64 s.2.1, .sl (.sl (.int .i64)) s.2.2.1, .sl (.sl (.int .i64)) s.2.2.2])] ?_
  refine zS 2 [(2, .int .i64 b), (3, .bp 3 0), (14, .bool (!v0_2))] [(3, .box 24 [.int .i64 s.1, .int .i64 s.2.1, .sl (.sl (.int .i64)) s.2.2.1, .sl (.sl (.int .i64)) s.2.2.2])] ?_
  rcases zI h with ⟨hb4, h⟩ | ⟨hb4, h⟩
  ·refine zS 4 [(14, .bool true), (18, .cv (undef))] [] ?_
   refine zB [(19, .bool true)] [] ?_
   refine AW.cond (b := true) rfl (fun _ => ?_) (fun hb5 => by cases hb5)
   refine zo ?_
   refine zB [(6, .int .i64 2)] [] ?_
   refine zr ?_
   obtain rfl := Option.some.inj h
   exact zR [] [] []
  ·refine zS 2 [(14, .bool false), (15, .agg [.int .i64 s.1, .int .i64 s.2.1, .sl (.sl (.int .i64)) s.2.2.1, .sl (.sl (.int .i64)) s.2.2.2]), (16, .int .i64 b)] [] ?_
   obtain ⟨v0_3, hv6, h⟩ := Option.bind_eq_some_iff.1 h
   refine zG [] [] (hc_linealref01_IsState s b hv6) [(14, .bool false), (17, .bool v0_3)] [] ?_
   refine zB [(19, .bool (!v0_3))] [] ?_
   refine zQ h (fun hb7 h => ?_) (fun hb7 h => ?_)
   ·refine zo ?_
    refine zB [(6, .int .i64 2)] [] ?_
    refine zr ?_
    obtain rfl := Option.some.inj h
    exact zR [] [] []
   ·refine zk ?_
    refine zo ?_
    refine zB [(6, .int .i64 0)] [] ?_
    refine AW.ret ?_
    obtain rfl := Option.some.inj h
    exact zR [] [] []

theorem hc_linealref01_SameLists (a : List (List Int)) (b : List (List Int)) {r : Bool} (h : linealref01_SameLists a b = some r) : HC Try.prog 81 [] [.sl (.sl (.int .i64)) a, .sl (.sl (.int .i64)) b] [] (.bool r) := by
 unfold linealref01_SameLists at h
 refine zH Try.func81 [.tmp 4] 27 ?_
 refine zo ?_
 refine zB [(0, .sl (.sl (.int .i64)) a), (1, .sl (.sl (.int .i64)) b)] [] ?_
 refine AW.seq ?_
 refine zo ?_
 refine zB [(0, .sl (.sl (.int .i64)) a), (1, .sl (.sl (.int .i64)) b), (10, .bool (!(decide ((a.length : Int) = (b.length : Int)))))] [] ?_
 refine zQ h (fun hb1 h => ?_) (fun hb1 h => ?_)
 ·refine zo ?_
  refine zB [(4, .bool false)] [] ?_
  refine zr ?_
  obtain rfl := Option.some.inj h
  exact zR [] [] []
 ·refine zk ?_
  refine AW.have1 (fun _ : Unit => linealref01_SameLists_k1 = some r) (fun _ => ⟨fr [], hpGet [], gt⟩) (fun _ h => ?_) (fun hk_linealref01_SameLists_k1 => ?_)
  ·as_aux_lemma =>
    unfold linealref01_SameLists_k1 at h
    refine zo ?_
    refine zB [(4, .bool true)] [] ?_
    refine AW.ret ?_
    obtain rfl := Option.some.inj h
    exact zR [] [] []
  ·refine AW.seq ?_
   refine zo ?_
   refine zB [(0, .sl (.sl (.int .i64)) a), (1, .sl (.sl (.int .i64)) b), (12, .int .i64 (a.length : Int)), (13, .int .i64 0)] [] ?_
   refine AW.block ?_
   obtain ⟨rv6, hw2, ho3⟩ := Option.bind_eq_some_iff.1 h
   refine AW.loopO (linealref01_SameLists_b1 a b) (fun st1 => ⟨fr [(0, .sl (.sl (.int .i64)) a), (1, .sl (.sl (.int .i64)) b), (12, .int .i64 (a.length : Int)), (13, .int .i64 st1)], hpGet [], gt⟩) 0 hw2 (zL [] [] []) ?_
   as_aux_lemma =>
    intro st1 x5 h hd4
    unfold linealref01_SameLists_b1 at h
    refine zo ?_
    refine zB [(0, .sl (.sl (.int .i64)) a), (1, .sl (.sl (.int .i64)) b), (12, .int .i64 (a.length : Int)), (13, .int .i64 st1), (14, .bool (decide (st1 < (a.length : Int))))] [] ?_
    refine AW.seq ?_
    refine zQ h (fun hb7 h => ?_) (fun hb7 h => ?_)
    ·refine zk ?_
     refine AW.seq ?_
     refine AW.block ?_
     refine zo ?_
     refine zB [(0, .sl (.sl (.int .i64)) a), (1, .sl (.sl (.int .i64)) b), (5, .int .i64 st1), (12, .int .i64 (a.length : Int)), (13, .int .i64 st1)] [] ?_
     refine AW.seq ?_
     refine AW.draw tab_ok mixed_ok [] [] (by decide) (lex_fast (by kernel_rfl)) ?_
     as_aux_lemma =>
      obtain ⟨c9, h⟩ := ck_some.1 h
      obtain ⟨c10, h⟩ := ck_some.1 h
      refine adops_cut 6 (fun K' hK8 => ?_)
      try dsimp only [List.drop_succ_cons, List.drop_zero, List.take_succ_cons, List.take_zero]
      simp only [go_sem, hb1, hb7]
      repeat with_reducible refine zN ?_
      refine hK8 _ ?_
      as_aux_lemma =>
       obtain ⟨c12, h⟩ := ck_some.1 h
       obtain ⟨c13, h⟩ := ck_some.1 h
       refine adops_cut 2 (fun K' hK11 => ?_)
       try dsimp only [List.drop_succ_cons, List.drop_zero, List.take_succ_cons, List.take_zero]
       simp only [go_sem, hb1, hb7]
       repeat with_reducible refine zN ?_
       refine hK11 _ ?_
       as_aux_lemma =>
        obtain ⟨v0, hv14, h⟩ := Option.bind_eq_some_iff.1 h
        refine adops.call (by first | trivial | rfl) rfl rfl rfl (fun _ h => h) [] [] (hc_linealref01_SameInts (a.getD st1.toNat []) (b.getD st1.toNat []) hv14) rfl (by (simp only [go_sem, hb1, hb7]) <;> (with_reducible and_intros) <;> first | assumption | rfl | omega | (unfold maxLen; omega)) (by (simp only [go_sem, hb1, hb7]) <;> (with_reducible and_intros) <;> first | assumption | rfl | omega | (unfold maxLen; omega)) rfl ?_
        refine adops_cut 1 (fun K' hK15 => ?_)
        try dsimp only [List.drop_succ_cons, List.drop_zero, List.take_succ_cons, List.take_zero]
        simp only [go_sem, hb1, hb7]
        repeat with_reducible refine zN ?_
        refine hK15 _ ?_
        refine adops_nil ?_
        refine athen_n ?_
        refine zV [(0, .sl (.sl (.int .i64)) a), (1, .sl (.sl (.int .i64)) b), (12, .int .i64 (a.length : Int)), (13, .int .i64 st1), (25, .bool (!v0))] [] gt ?_
        as_aux_lemma =>
         refine zQ h (fun hb16 h => ?_) (fun hb16 h => ?_)
         ·refine zo ?_
          refine zB [(4, .bool false)] [] ?_
          refine AW.ret ?_
          refine ablock_r ?_
          refine athen_r ?_
          obtain rfl := Option.some.inj h
          rw [← hd4 _ rfl] at ho3
          have h := ho3
          try simp only at h
          refine athen_r ?_
          refine ablock_r ?_
          refine athen_r ?_
          obtain rfl := Option.some.inj h
          exact zR [] [] []
         ·refine zm ?_
          refine athen_n ?_
          refine AW.ops ?_
          obtain ⟨c17, h⟩ := ck_some.1 h
          refine zA [(0, .sl (.sl (.int .i64)) a), (1, .sl (.sl (.int .i64)) b), (12, .int .i64 (a.length : Int)), (13, .int .i64 (st1 + 1))] [] ?_
          obtain rfl := Option.some.inj h
          exact ⟨_, rfl, zL [] [] []⟩
    ·refine AW.exit ?_
     refine athen_e ?_
     obtain rfl := Option.some.inj h
     rw [← hd4 _ rfl] at ho3
     have h := ho3
     try simp only at h
     refine athen_e ?_
     refine ablock_s ?_
     refine athen_n ?_
     exact AW.weaken (zL [] [] []) (hk_linealref01_SameLists_k1 () h)

theorem hc_linealref01_Equal (a : Int × Int × (List (List Int)) × (List (List Int))) (b : Int × Int × (List (List Int)) × (List (List Int))) {r : Bool} (h : linealref01_Equal a b = some r) : HC Try.prog 37 [] [.agg [.int .i64 a.1, .int .i64 a.2.1, .sl (.sl (.int .i64)) a.2.2.1, .sl (.sl (.int .i64)) a.2.2.2], .agg [.int .i64 b.1, .int .i64 b.2.1, .sl (.sl (.int .i64)) b.2.2.1, .sl (.sl (.int .i64)) b.2.2.2]] [] (.bool r) := by
 unfold linealref01_Equal at h
 refine zH Try.func37 [.tmp 4] 31 ?_
 refine zo ?_
 refine zB [(2, .bp 2 0), (3, .bp 3 0)] [(2, .box 24 [.int .i64 a.1, .int .i64 a.2.1, .sl (.sl (.int .i64)) a.2.2.1, .sl (.sl (.int .i64)) a.2.2.2]), (3, .box 24 [.int .i64 b.1, .int .i64 b.2.1, .sl (.sl (.int .i64)) b.2.2.1, .sl (.sl (.int .i64)) b.2.2.2])] ?_
 refine zo ?_
 refine zS 5 [(2, .bp 2 0), (3, .bp 3 0), (9, .bool (decide (a.1 = b.1)))] [(2, .box 24 [.int .i64 a.1, .int .i64 a.2.1, .sl (.sl (.int .i64)) a.2.2.1, .sl (.sl (.int .i64)) a.2.2.2]), (3, .box 24 [.int .i64 b.1, .int .i64 b.2.1, .sl (.sl (.int .i64)) b.2.2.1, .sl (.sl (.int .i64)) b.2.2.2])] ?_
 refine zS 1 [(2, .bp 2 0), (3, .bp 3 0), (10, .bool (decide (a.1 = b.1)))] [(2, .box 24 [.int .i64 a.1, .int .i64 a.2.1, .sl (.sl (.int .i64)) a.2.2.1, .sl (.sl (.int .i64)) a.2.2.2]), (3, .box 24 [.int .i64 b.1, .int .i64 b.2.1, .sl (.sl (.int .i64)) b.2.2.1, .sl (.sl (.int .i64)) b.2.2.2])] ?_
 rcases zI h with ⟨hb1, h⟩ | ⟨hb1, h⟩
 ·refine zS 5 [(2, .bp 2 0), (3, .bp 3 0), (10, .bool true), (15, .bool (decide (a.2.1 = b.2.1)))] [(2, .box 24 [.int .i64 a.1, .int .i64 a.2.1, .sl (.sl (.int .i64)) a.2.2.1, .sl (.sl (.int .i64)) a.2.2.2]), (3, .box 24 [.int .i64 b.1, .int .i64 b.2.1, .sl (.sl (.int .i64)) b.2.2.1, .sl (.sl (.int .i64)) b.2.2.2])] ?_
  refine zS 2 [(2, .bp 2 0), (3, .bp 3 0), (17, .bool (decide (a.2.1 = b.2.1)))] [(2, .box 24 [.int .i64 a.1, .int .i64 a.2.1, .sl (.sl (.int .i64)) a.2.2.1, .sl (.sl (.int .i64)) a.2.2.2]), (3, .box 24 [.int .i64 b.1, .int .i64 b.2.1, .sl (.sl (.int .i64)) b.2.2.1, .sl (.sl (.int .i64)) b.2.2.2])] ?_
  rcases zI h with ⟨hb2, h⟩ | ⟨hb2, h⟩
  ·refine zS 4 [(2, .bp 2 0), (3, .bp 3 0), (17, .bool true), (19, .sl (.sl (.int .i64)) a.2.2.1), (21, .sl (.sl (.int .i64)) b.2.2.1)] [(2, .box 24 [.int .i64 a.1, .int .i64 a.2.1, .sl (.sl (.int .i64)) a.2.2.1, .sl (.sl (.int .i64)) a.2.2.2]), (3, .box 24 [.int .i64 b.1, .int .i64 b.2.1, .sl (.sl (.int .i64)) b.2.2.1, .sl (.sl (.int .i64)) b.2.2.2])] ?_
   obtain ⟨v0, hv3, h⟩ := Option.bind_eq_some_iff.1 h
   refine zG [] [] (hc_linealref01_SameLists a.2.2.1 b.2.2.1 hv3) [(2, .bp 2 0), (3, .bp 3 0), (17, .bool true), (22, .bool v0)] [(2, .box 24 [.int .i64 a.1, .int .i64 a.2.1, .sl (.sl (.int .i64)) a.2.2.1, .sl (.sl (.int .i64)) a.2.2.2]), (3, .box 24 [.int .i64 b.1, .int .i64 b.2.1, .sl (.sl (.int .i64)) b.2.2.1, .sl (.sl (.int .i64)) b.2.2.2])] ?_
   refine zS 2 [(2, .bp 2 0), (3, .bp 3 0), (24, .bool v0)] [(2, .box 24 [.int .i64 a.1, .int .i64 a.2.1, .sl (.sl (.int .i64)) a.2.2.1, .sl (.sl (.int .i64)) a.2.2.2]), (3, .box 24 [.int .i64 b.1, .int .i64 b.2.1, .sl (.sl (.int .i64)) b.2.2.1, .sl (.sl (.int .i64)) b.2.2.2])] ?_
   rcases zI h with ⟨hb4, h⟩ | ⟨hb4, h⟩
   ·refine zS 4 [(24, .bool true), (26, .sl (.sl (.int .i64)) a.2.2.2), (28, .sl (.sl (.int .i64)) b.2.2.2)] [] ?_
    obtain ⟨v0_2, hv5, h⟩ := Option.bind_eq_some_iff.1 h
    refine zG [] [] (hc_linealref01_SameLists a.2.2.2 b.2.2.2 hv5) [(24, .bool true), (29, .bool v0_2)] [] ?_
    refine zB [(4, .bool v0_2)] [] ?_
    refine AW.ret ?_
    obtain rfl := Option.some.inj h
    exact zR [] [] []
   ·refine zS 4 [(24, .bool false), (26, .cv (undef)), (28, .cv (undef))] [] ?_
    refine zB [(4, .bool false)] [] ?_
    refine AW.ret ?_
    obtain rfl := Option.some.inj h
    exact zR [] [] []
  ·refine zS 4 [(2, .bp 2 0), (3, .bp 3 0), (17, .bool false), (19, .cv (undef)), (21, .cv (undef))] [(2, .box 24 [.int .i64 a.1, .int .i64 a.2.1, .sl (.sl (.int .i64)) a.2.2.1, .sl (.sl (.int .i64)) a.2.2.2]), (3, .box 24 [.int .i64 b.1, .int .i64 b.2.1, .sl (.sl (.int .i64)) b.2.2.1, .sl (.sl (.int .i64)) b.2.2.2])] ?_
   refine zS 5 [(3, .bp 3 0), (24, .bool false), (26, .cv (undef))] [(3, .box 24 [.int .i64 b.1, .int .i64 b.2.1, .sl (.sl (.int .i64)) b.2.2.1, .sl (.sl (.int .i64)) b.2.2.2])] ?_
   refine zB [(4, .bool false)] [] ?_
   refine AW.ret ?_
   obtain rfl := Option.some.inj h
   exact zR [] [] []
 ·refine zS 4 [(2, .bp 2 0), (3, .bp 3 0), (10, .bool false), (12, .cv (undef)), (14, .cv (undef))] [(2, .box 24 [.int .i64 a.1, .int .i64 a.2.1, .sl (.sl (.int .i64)) a.2.2.1, .sl (.sl (.int .i64)) a.2.2.2]), (3, .box 24 [.int .i64 b.1, .int .i64 b.2.1, .sl (.sl (.int .i64)) b.2.2.1, .sl (.sl (.int .i64)) b.2.2.2])] ?_
  refine zS 5 [(2, .bp 2 0), (3, .bp 3 0), (17, .bool false), (19, .cv (undef))] [(2, .box 24 [.int .i64 a.1, .int .i64 a.2.1, .sl (.sl (.int .i64)) a.2.2.1, .sl (.sl (.int .i64)) a.2.2.2]), (3, .box 24 [.int .i64 b.1, .int .i64 b.2.1, .sl (.sl (.int .i64)) b.2.2.1, .sl (.sl (.int .i64)) b.2.2.2])] ?_
  refine zS 5 [(2, .bp 2 0), (3, .bp 3 0), (24, .bool false)] [(2, .box 24 [.int .i64 a.1, .int .i64 a.2.1, .sl (.sl (.int .i64)) a.2.2.1, .sl (.sl (.int .i64)) a.2.2.2]), (3, .box 24 [.int .i64 b.1, .int .i64 b.2.1, .sl (.sl (.int .i64)) b.2.2.1, .sl (.sl (.int .i64)) b.2.2.2])] ?_
  refine zS 4 [(24, .bool false), (26, .cv (undef)), (28, .cv (undef))] [] ?_
  refine zB [(4, .bool false)] [] ?_
  refine AW.ret ?_
  obtain rfl := Option.some.inj h
  exact zR [] [] []

theorem hc_spec_machine_same (m : Int × Int × (List (List Int)) × (List (List Int))) (a : Int) (b : Int) {r : Bool} (h : spec_machine_same m a b = some r) : HC Try.prog 67 [] [.agg [.int .i64 m.1, .int .i64 m.2.1, .sl (.sl (.int .i64)) m.2.2.1, .sl (.sl (.int .i64)) m.2.2.2], .int .i64 a, .int .i64 b] [] (.bool r) := by
 unfold spec_machine_same at h
 refine zH Try.func67 [.tmp 6] 23 ?_
 refine zo ?_
 refine zB [(1, .int .i64 a), (2, .int .i64 b), (3, .bp 3 0)] [(3, .box 60 [.int .i64 m.1, .int .i64 m.2.1, .sl (.sl (.int .i64)) m.2.2.1, .sl (.sl (.int .i64)) m.2.2.2])] ?_
 refine AW.seq ?_
 refine zo ?_
 refine zB [(1, .int .i64 a), (2, .int .i64 b), (3, .bp 3 0), (11, .bool (decide (a = b)))] [(3, .box 60 [.int .i64 m.1, .int .i64 m.2.1, .sl (.sl (.int .i64)) m.2.2.1, .sl (.sl (.int .i64)) m.2.2.2])] ?_
 refine zQ h (fun hb1 h => ?_) (fun hb1 h => ?_)
 ·refine zo ?_
  refine zB [(6, .bool true)] [] ?_
  refine zr ?_
  obtain rfl := Option.some.inj h
  exact zR [] [] []
 ·refine zk ?_
  refine zo ?_
  refine zS 5 [(13, .agg [.int .i64 m.1, .int .i64 m.2.1, .sl (.sl (.int .i64)) m.2.2.1, .sl (.sl (.int .i64)) m.2.2.2]), (14, .agg [.int .i64 m.1, .int .i64 m.2.1, .sl (.sl (.int .i64)) m.2.2.1, .sl (.sl (.int .i64)) m.2.2.2]), (17, .agg [.int .i64 a, .int .i64 b])] [] ?_
  obtain ⟨v0, hv2, h⟩ := Option.bind_eq_some_iff.1 h
  refine zC [] [] (hc_spec_apart m m (a, b) hv2) [(18, .tup [.own 28000, .bool v0.2])] [(28000, .arr 3 (.int .i64) v0.1)] ?_
  refine zB [(8, .bool v0.2)] [] ?_
  refine zo ?_
  refine zB [(6, .bool (!v0.2))] [] ?_
  refine AW.ret ?_
  obtain rfl := Option.some.inj h
  exact zR [] [] []

theorem hc_spec_machine_classes (m : Int × Int × (List (List Int)) × (List (List Int))) {r : (List Int)} (h : spec_machine_classes m = some r) : HC Try.prog 71 [] [.agg [.int .i64 m.1, .int .i64 m.2.1, .sl (.sl (.int .i64)) m.2.2.1, .sl (.sl (.int .i64)) m.2.2.2]] [(2000, .arr 3 (.int .i64) r)] (.own 2000) := by
 unfold spec_machine_classes at h
 refine zH Try.func71 [.tmp 2] 29 ?_
 refine zo ?_
 refine zB [(1, .bp 1 0)] [(1, .box 60 [.int .i64 m.1, .int .i64 m.2.1, .sl (.sl (.int .i64)) m.2.2.1, .sl (.sl (.int .i64)) m.2.2.2])] ?_
 refine zo ?_
 obtain ⟨c1, h⟩ := ck_some.1 h
 obtain ⟨c2, h⟩ := ck_some.1 h
 refine zB [(1, .bp 1 0), (3, .own 7)] [(1, .box 60 [.int .i64 m.1, .int .i64 m.2.1, .sl (.sl (.int .i64)) m.2.2.1, .sl (.sl (.int .i64)) m.2.2.2]), (7, .arr 3 (.int .i64) (List.replicate m.1.toNat (0 : Int)))] ?_
 refine AW.have1 (fun b2_2 : (List Int) => spec_machine_classes_k1 b2_2 = some r) (fun b2_2 => ⟨fr [(3, .own 7)], hpGet [(7, .arr 3 (.int .i64) b2_2)], gt⟩) (fun b2_2 h => ?_) (fun hk_spec_machine_classes_k1 => ?_)
 ·as_aux_lemma =>
   unfold spec_machine_classes_k1 at h
   refine zo ?_
   refine zB [(2, .own 7)] [(7, .arr 3 (.int .i64) b2_2)] ?_
   refine AW.ret ?_
   obtain rfl := Option.some.inj h
   exact zR [] [] [(2000, 7)]
 ·refine AW.seq ?_
  refine zo ?_
  refine zB [(1, .bp 1 0), (3, .own 7), (9, .int .i64 ((List.replicate m.1.toNat (0 : Int)).length : Int)), (10, .int .i64 0)] [(1, .box 60 [.int .i64 m.1, .int .i64 m.2.1, .sl (.sl (.int .i64)) m.2.2.1, .sl (.sl (.int .i64)) m.2.2.2]), (7, .arr 3 (.int .i64) (List.replicate m.1.toNat (0 : Int)))] ?_
  refine AW.block ?_
  obtain ⟨rv7, hw3, ho4⟩ := Option.bind_eq_some_iff.1 h
  refine AW.loopO (spec_machine_classes_b1 m) (fun st1 => ⟨fr [(1, .bp 1 0), (3, .own 7), (9, .int .i64 ((List.replicate m.1.toNat (0 : Int)).length : Int)), (10, .int .i64 st1.2)], hpGet [(1, .box 60 [.int .i64 m.1, .int .i64 m.2.1, .sl (.sl (.int .i64)) m.2.2.1, .sl (.sl (.int .i64)) m.2.2.2]), (7, .arr 3 (.int .i64) st1.1)], gt⟩) ((List.replicate m.1.toNat (0 : Int)), 0) hw3 (zL [] [] []) ?_
  as_aux_lemma =>
   intro st1 x6 h hd5
   unfold spec_machine_classes_b1 at h
   refine zo ?_
   refine zB [(1, .bp 1 0), (3, .own 7), (9, .int .i64 ((List.replicate m.1.toNat (0 : Int)).length : Int)), (10, .int .i64 st1.2), (11, .bool (decide (st1.2 < ((List.replicate m.1.toNat (0 : Int)).length : Int))))] [(1, .box 60 [.int .i64 m.1, .int .i64 m.2.1, .sl (.sl (.int .i64)) m.2.2.1, .sl (.sl (.int .i64)) m.2.2.2]), (7, .arr 3 (.int .i64) st1.1)] ?_
   refine AW.seq ?_
   refine zQ h (fun hb8 h => ?_) (fun hb8 h => ?_)
   ·refine zk ?_
    refine AW.have1 (fun b2 : (List Int) => spec_machine_classes_k2 st1 b2 = some x6) (fun b2 => ⟨fr [(1, .bp 1 0), (3, .own 7), (9, .int .i64 ((List.replicate m.1.toNat (0 : Int)).length : Int)), (10, .int .i64 st1.2)], hpGet [(1, .box 60 [.int .i64 m.1, .int .i64 m.2.1, .sl (.sl (.int .i64)) m.2.2.1, .sl (.sl (.int .i64)) m.2.2.2]), (7, .arr 3 (.int .i64) b2)], gt⟩) (fun b2 h => ?_) (fun hk_spec_machine_classes_k2 => ?_)
    ·as_aux_lemma =>
      unfold spec_machine_classes_k2 at h
      refine AW.ops ?_
      obtain ⟨c9, h⟩ := ck_some.1 h
      refine zA [(1, .bp 1 0), (3, .own 7), (9, .int .i64 ((List.replicate m.1.toNat (0 : Int)).length : Int)), (10, .int .i64 (st1.2 + 1))] [(1, .box 60 [.int .i64 m.1, .int .i64 m.2.1, .sl (.sl (.int .i64)) m.2.2.1, .sl (.sl (.int .i64)) m.2.2.2]), (7, .arr 3 (.int .i64) b2)] ?_
      obtain rfl := Option.some.inj h
      exact ⟨_, rfl, zL [] [] []⟩
    ·refine AW.seq ?_
     refine AW.block ?_
     refine zo ?_
     refine zB [(1, .bp 1 0), (3, .own 7), (4, .int .i64 st1.2), (9, .int .i64 ((List.replicate m.1.toNat (0 : Int)).length : Int)), (10, .int .i64 st1.2)] [(1, .box 60 [.int .i64 m.1, .int .i64 m.2.1, .sl (.sl (.int .i64)) m.2.2.1, .sl (.sl (.int .i64)) m.2.2.2]), (7, .arr 3 (.int .i64) st1.1)] ?_
     refine AW.block ?_
     obtain ⟨rv14, hw10, ho11⟩ := Option.bind_eq_some_iff.1 h
     refine AW.loopO (spec_machine_classes_b2 m st1) (fun st2 => ⟨fr [(1, .bp 1 0), (3, .own 7), (4, .int .i64 st1.2), (9, .int .i64 ((List.replicate m.1.toNat (0 : Int)).length : Int)), (10, .int .i64 st1.2)], hpGet [(1, .box 60 [.int .i64 m.1, .int .i64 m.2.1, .sl (.sl (.int .i64)) m.2.2.1, .sl (.sl (.int .i64)) m.2.2.2]), (7, .arr 3 (.int .i64) st2)], gt⟩) st1.1 hw10 (zL [] [] []) ?_
     as_aux_lemma =>
      intro st2 x13 h hd12
      unfold spec_machine_classes_b2 at h
      refine AW.seq ?_
      refine AW.seq ?_
      refine AW.draw tab_ok mixed_ok [] [] (by decide) (by kernel_rfl) ?_
      as_aux_lemma =>
       obtain ⟨c16, h⟩ := ck_some.1 h
       obtain ⟨c17, h⟩ := ck_some.1 h
       refine adops_cut 6 (fun K' hK15 => ?_)
       try dsimp only [List.drop_succ_cons, List.drop_zero, List.take_succ_cons, List.take_zero]
       simp only [go_sem, hb8]
       repeat with_reducible refine zN ?_
       refine hK15 _ ?_
       as_aux_lemma =>
        obtain ⟨v0, hv18, h⟩ := Option.bind_eq_some_iff.1 h
        refine adops.call (by first | trivial | rfl) rfl rfl rfl (fun _ h => h) [] [] (hc_spec_machine_same m (st2.getD st1.2.toNat 0) st1.2 hv18) rfl (by (simp only [go_sem, hb8]) <;> (with_reducible and_intros) <;> first | assumption | rfl | omega | (unfold maxLen; omega)) (by (simp only [go_sem, hb8]) <;> (with_reducible and_intros) <;> first | assumption | rfl | omega | (unfold maxLen; omega)) rfl ?_
        refine adops_cut 1 (fun K' hK19 => ?_)
        try dsimp only [List.drop_succ_cons, List.drop_zero, List.take_succ_cons, List.take_zero]
        simp only [go_sem, hb8]
        repeat with_reducible refine zN ?_
        refine hK19 _ ?_
        refine adops_nil ?_
        refine athen_n ?_
        refine zV [(1, .bp 1 0), (3, .own 7), (4, .int .i64 st1.2), (9, .int .i64 ((List.replicate m.1.toNat (0 : Int)).length : Int)), (10, .int .i64 st1.2), (20, .bool (!v0))] [(1, .box 60 [.int .i64 m.1, .int .i64 m.2.1, .sl (.sl (.int .i64)) m.2.2.1, .sl (.sl (.int .i64)) m.2.2.2]), (7, .arr 3 (.int .i64) st2)] gt ?_
        as_aux_lemma =>
         refine zQ h (fun hb20 h => ?_) (fun hb20 h => ?_)
         ·refine zk ?_
          refine AW.block ?_
          refine AW.ops ?_
          obtain ⟨c21, h⟩ := ck_some.1 h
          obtain ⟨c22, h⟩ := ck_some.1 h
          obtain ⟨c23, h⟩ := ck_some.1 h
          refine zS 5 [(1, .bp 1 0), (3, .own 7), (4, .int .i64 st1.2), (9, .int .i64 ((List.replicate m.1.toNat (0 : Int)).length : Int)), (10, .int .i64 st1.2), (21, .own 7), (22, .int .i64 st1.2), (25, .int .i64 ((st2.getD st1.2.toNat 0) + 1))] [(1, .box 60 [.int .i64 m.1, .int .i64 m.2.1, .sl (.sl (.int .i64)) m.2.2.1, .sl (.sl (.int .i64)) m.2.2.2]), (7, .arr 3 (.int .i64) st2)] ?_
          obtain ⟨c24, h⟩ := ck_some.1 h
          obtain ⟨c25, h⟩ := ck_some.1 h
          refine zA [(1, .bp 1 0), (3, .own 7), (4, .int .i64 st1.2), (9, .int .i64 ((List.replicate m.1.toNat (0 : Int)).length : Int)), (10, .int .i64 st1.2)] [(1, .box 60 [.int .i64 m.1, .int .i64 m.2.1, .sl (.sl (.int .i64)) m.2.2.1, .sl (.sl (.int .i64)) m.2.2.2]), (7, .arr 3 (.int .i64) (st2.set st1.2.toNat ((st2.getD st1.2.toNat 0) + 1)))] ?_
          refine ablock_n ?_
          obtain rfl := Option.some.inj h
          exact ⟨_, rfl, zL [] [] []⟩
         ·refine AW.exit ?_
          refine athen_e ?_
          obtain rfl := Option.some.inj h
          rw [← hd12 _ rfl] at ho11
          have h := ho11
          refine athen_e ?_
          refine ablock_s ?_
          refine ablock_n ?_
          refine athen_n ?_
          exact AW.weaken (zL [] [] []) (hk_spec_machine_classes_k2 _ h)
   ·refine AW.exit ?_
    refine athen_e ?_
    obtain rfl := Option.some.inj h
    rw [← hd5 _ rfl] at ho4
    have h := ho4
    refine athen_e ?_
    refine ablock_s ?_
    refine athen_n ?_
    exact AW.weaken (zL [] [] []) (hk_spec_machine_classes_k1 _ h)

theorem hc_spec_machine_ways (m : Int × Int × (List (List Int)) × (List (List Int))) {r : Unit} (h : spec_machine_ways m = some r) : HC Try.prog 75 [] [.agg [.int .i64 m.1, .int .i64 m.2.1, .sl (.sl (.int .i64)) m.2.2.1, .sl (.sl (.int .i64)) m.2.2.2]] [(2000, .box 60 [.int .i64 m.1, .int .i64 m.2.1, .sl (.sl (.int .i64)) m.2.2.1, .sl (.sl (.int .i64)) m.2.2.2])] (.fn (.func 98) [] [.bp 2000 0]) := by
 unfold spec_machine_ways at h
 refine zH Try.func75 [.tmp 2] 4 ?_
 refine zo ?_
 refine zB [(1, .bp 1 0)] [(1, .box 60 [.int .i64 m.1, .int .i64 m.2.1, .sl (.sl (.int .i64)) m.2.2.1, .sl (.sl (.int .i64)) m.2.2.2])] ?_
 refine zo ?_
 refine zB [(2, .fn (.func 98) [] [.bp 1 0])] [(1, .box 60 [.int .i64 m.1, .int .i64 m.2.1, .sl (.sl (.int .i64)) m.2.2.1, .sl (.sl (.int .i64)) m.2.2.2])] ?_
 refine AW.ret ?_
 obtain rfl := Option.some.inj h
 exact zR [] [] [(2000, 1)]

theorem ic_spec_machine_ways_1 {S R : Type} (a1 : Int × Int × (List (List Int)) × (List (List Int))) (yl : Int × (List Int) → S → Option (Step S R)) (s0 : S) {r : Sum S R} (h : spec_machine_ways_1 S R a1 yl s0 = some r) : IC Try.prog 98 [(1000, .box 60 [.int .i64 a1.1, .int .i64 a1.2.1, .sl (.sl (.int .i64)) a1.2.2.1, .sl (.sl (.int .i64)) a1.2.2.2])] [.bp 1000 0] (fun (y : Int × (List Int)) => [.int .i64 y.1, .sl (.int .i64) y.2]) yl s0 r := by
 unfold spec_machine_ways_1 at h
 refine IC.of_body Try.func98 rfl (by kernel_rfl) rfl (nt := 17) rfl (by decide) (by simp) ?_
 intro Γ Γx lp hΓ hΓx hY
 refine zo ?_
 refine zB [(1, .bp 1000 0), (2, .bp 2 0)] [(2, .box 103 [.fn (.yield lp) [] []]), (1000, .box 60 [.int .i64 a1.1, .int .i64 a1.2.1, .sl (.sl (.int .i64)) a1.2.2.1, .sl (.sl (.int .i64)) a1.2.2.2])] ?_
 refine zo ?_
 refine zS 3 [(2, .bp 2 0), (5, .agg [.int .i64 a1.1, .int .i64 a1.2.1, .sl (.sl (.int .i64)) a1.2.2.1, .sl (.sl (.int .i64)) a1.2.2.2]), (6, .agg [.int .i64 a1.1, .int .i64 a1.2.1, .sl (.sl (.int .i64)) a1.2.2.1, .sl (.sl (.int .i64)) a1.2.2.2]), (7, .agg [.int .i64 0, .int .i64 0])] [(2, .box 103 [.fn (.yield lp) [] []]), (1000, .box 60 [.int .i64 a1.1, .int .i64 a1.2.1, .sl (.sl (.int .i64)) a1.2.2.1, .sl (.sl (.int .i64)) a1.2.2.2])] ?_
 obtain ⟨v0, hv1, h⟩ := Option.bind_eq_some_iff.1 h
 refine zC [] [] (hc_spec_walk a1 a1 (0, 0) hv1) [(2, .bp 2 0), (8, .fn (.func 100) [] [.bp 18000 0, .bp 18001 0, .bp 18002 0])] [(2, .box 103 [.fn (.yield lp) [] []]), (1000, .box 60 [.int .i64 a1.1, .int .i64 a1.2.1, .sl (.sl (.int .i64)) a1.2.2.1, .sl (.sl (.int .i64)) a1.2.2.2]), (18000, .box 75 [.int .i64 0, .int .i64 0]), (18001, .box 60 [.int .i64 a1.1, .int .i64 a1.2.1, .sl (.sl (.int .i64)) a1.2.2.1, .sl (.sl (.int .i64)) a1.2.2.2]), (18002, .box 60 [.int .i64 a1.1, .int .i64 a1.2.1, .sl (.sl (.int .i64)) a1.2.2.1, .sl (.sl (.int .i64)) a1.2.2.2])] ?_
 refine zB [(2, .bp 2 0), (8, .fn (.func 100) [] [.bp 18000 0, .bp 18001 0, .bp 18002 0])] [(2, .box 103 [.fn (.yield lp) [] []]), (1000, .box 60 [.int .i64 a1.1, .int .i64 a1.2.1, .sl (.sl (.int .i64)) a1.2.2.1, .sl (.sl (.int .i64)) a1.2.2.2]), (18000, .box 75 [.int .i64 0, .int .i64 0]), (18001, .box 60 [.int .i64 a1.1, .int .i64 a1.2.1, .sl (.sl (.int .i64)) a1.2.2.1, .sl (.sl (.int .i64)) a1.2.2.2]), (18002, .box 60 [.int .i64 a1.1, .int .i64 a1.2.1, .sl (.sl (.int .i64)) a1.2.2.1, .sl (.sl (.int .i64)) a1.2.2.2])] ?_
 refine AW.block ?_
 obtain ⟨x2, hx3, h⟩ := Option.bind_eq_some_iff.1 h
 refine AW.weaken (s' := ⟨fr [(2, .bp 2 0), (8, .fn (.func 100) [] [.bp 18000 0, .bp 18001 0, .bp 18002 0])], hpGet ([(18000, .box 75 [.int .i64 0, .int .i64 0]), (18001, .box 60 [.int .i64 a1.1, .int .i64 a1.2.1, .sl (.sl (.int .i64)) a1.2.2.1, .sl (.sl (.int .i64)) a1.2.2.2]), (18002, .box 60 [.int .i64 a1.1, .int .i64 a1.2.1, .sl (.sl (.int .i64)) a1.2.2.1, .sl (.sl (.int .i64)) a1.2.2.2])] ++ [(2, .box 103 [.fn (.yield lp) [] []]), (1000, .box 60 [.int .i64 a1.1, .int .i64 a1.2.1, .sl (.sl (.int .i64)) a1.2.2.1, .sl (.sl (.int .i64)) a1.2.2.2])]), (Γ s0)⟩) (zL [] [] []) ?_
 refine AW.rangeF (R := R) (l0 := [(2, .bp 2 0)]) (hI := [(18000, .box 75 [.int .i64 0, .int .i64 0]), (18001, .box 60 [.int .i64 a1.1, .int .i64 a1.2.1, .sl (.sl (.int .i64)) a1.2.2.1, .sl (.sl (.int .i64)) a1.2.2.2]), (18002, .box 60 [.int .i64 a1.1, .int .i64 a1.2.1, .sl (.sl (.int .i64)) a1.2.2.1, .sl (.sl (.int .i64)) a1.2.2.2])]) (h0 := fun (st1 : S) => [(2, .box 103 [.fn (.yield lp) [] []]), (1000, .box 60 [.int .i64 a1.1, .int .i64 a1.2.1, .sl (.sl (.int .i64)) a1.2.2.1, .sl (.sl (.int .i64)) a1.2.2.2])]) (gg := fun (st1 : S) => (Γ st1)) (hx0 := (fun (r1 : R) => [(2, .box 103 [.fn (.yield lp) [] []]), (1000, .box 60 [.int .i64 a1.1, .int .i64 a1.2.1, .sl (.sl (.int .i64)) a1.2.2.1, .sl (.sl (.int .i64)) a1.2.2.2])])) (gx := (fun (r1 : R) => (Γx r1))) (ex := (fun (r1 : R) => Exit.ret)) s0 [(18000, 1000), (18001, 1001), (18002, 1002)] [(1000, 18000), (1001, 18001), (1002, 18002)] [(2, 1900)] [(1900, 2)] (by decide) rfl (by first | exact (ic_spec_walk_1 (0, 0) a1 a1 (spec_machine_ways_1_y1 S R yl) s0 hx3) | simpa only [go_sem] using (ic_spec_walk_1 (0, 0) a1 a1 (spec_machine_ways_1_y1 S R yl) s0 hx3)) (by (simp only [go_sem]) <;> (with_reducible and_intros) <;> first | assumption | rfl | omega | (unfold maxLen; omega)) rfl rfl rfl (fun _ => rfl) rfl (fun _ => rfl) rfl (fun _ => rfl) (fun _ => rfl) (fun _ => rfl) (fun _ => rfl) rfl (fun _ _ => by first | rfl | (exact (hΓ _).trans (hΓ _).symm) | (exact (hΓx _).trans (hΓ _).symm)) (fun _ _ => by first | rfl | (exact (hΓ _).trans (hΓ _).symm) | (exact (hΓx _).trans (hΓ _).symm)) ?_ ?_
 ·intro lpy1 y1 st1 x4 h
  unfold spec_machine_ways_1_y1 at h
  refine zV [(2, .bp 1900 0), (9, .agg [.int .i64 y1.1.1, .int .i64 y1.1.2]), (10, .sl (.int .i64) y1.2)] [(1000, .box 60 [.int .i64 a1.1, .int .i64 a1.2.1, .sl (.sl (.int .i64)) a1.2.2.1, .sl (.sl (.int .i64)) a1.2.2.2]), (1900, .box 103 [.fn (.yield lp) [] []])] (Γ st1) ?_
  refine zo ?_
  refine zB [(2, .bp 1900 0), (3, .bp 3 0), (10, .sl (.int .i64) y1.2)] [(3, .box 75 [.int .i64 y1.1.1, .int .i64 y1.1.2]), (1000, .box 60 [.int .i64 a1.1, .int .i64 a1.2.1, .sl (.sl (.int .i64)) a1.2.2.1, .sl (.sl (.int .i64)) a1.2.2.2]), (1900, .box 103 [.fn (.yield lp) [] []])] ?_
  refine AW.ops ?_
  refine zA [(2, .bp 1900 0), (3, .bp 3 0), (4, .sl (.int .i64) y1.2)] [(3, .box 75 [.int .i64 y1.1.1, .int .i64 y1.1.2]), (1000, .box 60 [.int .i64 a1.1, .int .i64 a1.2.1, .sl (.sl (.int .i64)) a1.2.2.1, .sl (.sl (.int .i64)) a1.2.2.2]), (1900, .box 103 [.fn (.yield lp) [] []])] ?_
  refine And.intro rfl ?_
  refine AW.block ?_
  refine zo ?_
  refine zS 4 [(2, .bp 1900 0), (11, .fn (.yield lp) [] []), (13, .int .i64 y1.1.1), (14, .sl (.int .i64) y1.2)] [(1000, .box 60 [.int .i64 a1.1, .int .i64 a1.2.1, .sl (.sl (.int .i64)) a1.2.2.1, .sl (.sl (.int .i64)) a1.2.2.2]), (1900, .box 103 [.fn (.yield lp) [] []])] ?_
  obtain ⟨x5, hx6, h⟩ := Option.bind_eq_some_iff.1 h
  refine yield_op rfl rfl rfl (by decide) _ rfl hY hΓ hΓx (y1.1.1, y1.2) [] (by (simp only [go_sem]) <;> (with_reducible and_intros) <;> first | assumption | rfl | omega | (unfold maxLen; omega)) hx6 ?_
  cases x5 with
  | next s =>
   try simp only at h
   refine zT [(2, .bp 1900 0), (15, .bool true)] [(1000, .box 60 [.int .i64 a1.1, .int .i64 a1.2.1, .sl (.sl (.int .i64)) a1.2.2.1, .sl (.sl (.int .i64)) a1.2.2.2]), (1900, .box 103 [.fn (.yield lp) [] []])] (Γ s) ?_
   refine zB [(2, .bp 1900 0), (16, .bool false)] [(1000, .box 60 [.int .i64 a1.1, .int .i64 a1.2.1, .sl (.sl (.int .i64)) a1.2.2.1, .sl (.sl (.int .i64)) a1.2.2.2]), (1900, .box 103 [.fn (.yield lp) [] []])] ?_
   refine AW.cond (b := false) rfl (fun hb7 => by cases hb7) (fun _ => ?_)
   refine zm ?_
   obtain rfl := Option.some.inj h
   exact rpost_next rfl [] [] [] rfl (by (simp only [go_sem]) <;> (with_reducible and_intros) <;> first | assumption | rfl | omega | (unfold maxLen; omega))
  | done e =>
   try simp only at h
   refine zT [(2, .bp 1900 0), (15, .bool false)] [(1000, .box 60 [.int .i64 a1.1, .int .i64 a1.2.1, .sl (.sl (.int .i64)) a1.2.2.1, .sl (.sl (.int .i64)) a1.2.2.2]), (1900, .box 103 [.fn (.yield lp) [] []])] (Γx e) ?_
   refine zB [(2, .bp 1900 0), (16, .bool true)] [(1000, .box 60 [.int .i64 a1.1, .int .i64 a1.2.1, .sl (.sl (.int .i64)) a1.2.2.1, .sl (.sl (.int .i64)) a1.2.2.2]), (1900, .box 103 [.fn (.yield lp) [] []])] ?_
   refine AW.cond (b := true) rfl (fun _ => ?_) (fun hb8 => by cases hb8)
   refine AW.ret ?_
   refine ablock_r ?_
   obtain rfl := Option.some.inj h
   exact rpost_ret rfl rfl [] [] [] rfl (by (simp only [go_sem]) <;> (with_reducible and_intros) <;> first | assumption | rfl | omega | (unfold maxLen; omega))
 ·cases x2 with
  | inl st1_2 =>
   try simp only at h
   refine ablock_n ?_
   obtain rfl := Option.some.inj h
   exact rfl
  | inr r1 =>
   try simp only at h
   refine ablock_r ?_
   obtain rfl := Option.some.inj h
   exact rfl

end Go.Proofs.Ytcgflignbhmoaaa
