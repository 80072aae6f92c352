/-
  Made by wip/tool/dc.py out of the print of the program: contracts.
-/
import Derived.Test.YtifleoceebaooaaRfp
import Derived.Test.YtifleoceebaooaaShr
import Derived.Test.YtifleoceebaooaaAvd
import Derived.Test.YtifleoceebaooaaNec1
import Derived.Test.YtifleoceebaooaaNec3
namespace Go.Proofs.Ytifleoceebaooaa
open Go.RowKit

set_option linter.unusedSimpArgs false
set_option linter.unusedVariables false
set_option linter.constructorNameAsVariable false

set_option maxRecDepth 100000
set_option maxHeartbeats 2000000

theorem hc_linealref05_SameInts (a : List Int) (b : List Int) {r : Bool} (h : linealref05_SameInts a b = some r) : HC Try.prog 22 [] [.sl (.int .i64) a, .sl (.int .i64) b] [] (.bool r) := by
 unfold linealref05_SameInts at h
 refine zH Try.func22 [.tmp 4] 26 ?_
 refine zo ?_
 refine zB [(0, .sl (.int .i64) a), (1, .sl (.int .i64) b)] [] ?_
 refine AW.seq ?_
 refine zo ?_
 refine zB [(0, .sl (.int .i64) a), (1, .sl (.int .i64) b), (10, .bool (!(decide ((a.length : Int) = (b.length : Int)))))] [] ?_
 refine zQ h (fun hb1 h => ?_) (fun hb1 h => ?_)
 ·refine zo ?_
  refine zB [(4, .bool false)] [] ?_
  refine zr ?_
  obtain rfl := Option.some.inj h
  exact zR [] [] []
 ·refine zk ?_
  refine AW.have1 (fun _ : Unit => linealref05_SameInts_k1 = some r) (fun _ => ⟨fr [], hpGet [], gt⟩) (fun _ h => ?_) (fun hk_linealref05_SameInts_k1 => ?_)
  ·as_aux_lemma =>
    unfold linealref05_SameInts_k1 at h
    refine zo ?_
    refine zB [(4, .bool true)] [] ?_
    refine AW.ret ?_
    obtain rfl := Option.some.inj h
    exact zR [] [] []
  ·refine AW.seq ?_
   refine zo ?_
   refine zB [(0, .sl (.int .i64) a), (1, .sl (.int .i64) b), (12, .int .i64 (a.length : Int)), (13, .int .i64 0)] [] ?_
   refine AW.block ?_
   obtain ⟨rv6, hw2, ho3⟩ := Option.bind_eq_some_iff.1 h
   refine AW.loopO (linealref05_SameInts_b1 a b) (fun st1 => ⟨fr [(0, .sl (.int .i64) a), (1, .sl (.int .i64) b), (12, .int .i64 (a.length : Int)), (13, .int .i64 st1)], hpGet [], gt⟩) 0 hw2 (zL [] [] []) ?_
   as_aux_lemma =>
    intro st1 x5 h hd4
    unfold linealref05_SameInts_b1 at h
    refine zo ?_
    refine zB [(0, .sl (.int .i64) a), (1, .sl (.int .i64) b), (12, .int .i64 (a.length : Int)), (13, .int .i64 st1), (14, .bool (decide (st1 < (a.length : Int))))] [] ?_
    refine AW.seq ?_
    refine zQ h (fun hb7 h => ?_) (fun hb7 h => ?_)
    ·refine zk ?_
     refine AW.seq ?_
     refine AW.block ?_
     refine zo ?_
     refine zB [(0, .sl (.int .i64) a), (1, .sl (.int .i64) b), (5, .int .i64 st1), (12, .int .i64 (a.length : Int)), (13, .int .i64 st1)] [] ?_
     refine AW.seq ?_
     refine AW.draw tab_ok mixed_ok [] [] (by decide) (lex_fast (by kernel_rfl)) ?_
     as_aux_lemma =>
      obtain ⟨c9, h⟩ := ck_some.1 h
      obtain ⟨c10, h⟩ := ck_some.1 h
      refine adops_cut 6 (fun K' hK8 => ?_)
      try dsimp only [List.drop_succ_cons, List.drop_zero, List.take_succ_cons, List.take_zero]
      simp only [go_sem, hb1, hb7]
      repeat with_reducible refine zN ?_
      refine hK8 _ ?_
      as_aux_lemma =>
       obtain ⟨c12, h⟩ := ck_some.1 h
       obtain ⟨c13, h⟩ := ck_some.1 h
       refine adops_cut 3 (fun K' hK11 => ?_)
       try dsimp only [List.drop_succ_cons, List.drop_zero, List.take_succ_cons, List.take_zero]
       simp only [go_sem, hb1, hb7]
       repeat with_reducible refine zN ?_
       refine hK11 _ ?_
       refine adops_nil ?_
       refine athen_n ?_
       refine zV [(0, .sl (.int .i64) a), (1, .sl (.int .i64) b), (12, .int .i64 (a.length : Int)), (13, .int .i64 st1), (24, .bool (!(decide ((a.getD st1.toNat 0) = (b.getD st1.toNat 0)))))] [] gt ?_
       as_aux_lemma =>
        refine zQ h (fun hb14 h => ?_) (fun hb14 h => ?_)
        ·refine zo ?_
         refine zB [(4, .bool false)] [] ?_
         refine AW.ret ?_
         refine ablock_r ?_
         refine athen_r ?_
         obtain rfl := Option.some.inj h
         rw [← hd4 _ rfl] at ho3
         have h := ho3
         try simp only at h
         refine athen_r ?_
         refine ablock_r ?_
         refine athen_r ?_
         obtain rfl := Option.some.inj h
         exact zR [] [] []
        ·refine zm ?_
         refine athen_n ?_
         refine AW.ops ?_
         obtain ⟨c15, h⟩ := ck_some.1 h
         refine zA [(0, .sl (.int .i64) a), (1, .sl (.int .i64) b), (12, .int .i64 (a.length : Int)), (13, .int .i64 (st1 + 1))] [] ?_
         obtain rfl := Option.some.inj h
         exact ⟨_, rfl, zL [] [] []⟩
    ·refine AW.exit ?_
     refine athen_e ?_
     obtain rfl := Option.some.inj h
     rw [← hd4 _ rfl] at ho3
     have h := ho3
     try simp only at h
     refine athen_e ?_
     refine ablock_s ?_
     refine athen_n ?_
     exact AW.weaken (zL [] [] []) (hk_linealref05_SameInts_k1 () h)

theorem hc_lineallaw05_Awake {r : Bool} (h : lineallaw05_Awake = some r) : HC Try.prog 17 [] [] [] (.bool r) := by
 unfold lineallaw05_Awake at h
 refine zH Try.func17 [.tmp 0] 27 ?_
 refine zo ?_
 refine zB [] [] ?_
 refine zo ?_
 refine zS 5 [(1, .bp 1 0), (8, .agg [.int .i64 2, .own 7])] [(1, .box 24 [.int .i64 0, .cv (.slice none 0 0)]), (7, .arr 66 (.pair (.int .i64) (.pair (.int .i64) (.int .i64))) [(0, 1, 1), (1, 2, 0)])] ?_
 refine zB [(1, .bp 1 0)] [(1, .box 24 [.int .i64 2, .own 7]), (7, .arr 66 (.pair (.int .i64) (.pair (.int .i64) (.int .i64))) [(0, 1, 1), (1, 2, 0)])] ?_
 refine zo ?_
 refine zS 5 [(1, .bp 1 0), (13, .agg [.int .i64 2, .own 12])] [(1, .box 24 [.int .i64 2, .own 7]), (7, .arr 66 (.pair (.int .i64) (.pair (.int .i64) (.int .i64))) [(0, 1, 1), (1, 2, 0)]), (12, .arr 66 (.pair (.int .i64) (.pair (.int .i64) (.int .i64))) [(0, 1, 1), (1, 2, 0), (1, 3, 0)])] ?_
 refine zB [(1, .bp 1 0), (2, .bp 2 0)] [(1, .box 24 [.int .i64 2, .own 7]), (2, .box 24 [.int .i64 2, .own 12]), (7, .arr 66 (.pair (.int .i64) (.pair (.int .i64) (.int .i64))) [(0, 1, 1), (1, 2, 0)]), (12, .arr 66 (.pair (.int .i64) (.pair (.int .i64) (.int .i64))) [(0, 1, 1), (1, 2, 0), (1, 3, 0)])] ?_
 refine zo ?_
 refine zS 2 [(15, .agg [.int .i64 2, .own 12]), (16, .agg [.int .i64 2, .own 7])] [(7, .arr 66 (.pair (.int .i64) (.pair (.int .i64) (.int .i64))) [(0, 1, 1), (1, 2, 0)]), (12, .arr 66 (.pair (.int .i64) (.pair (.int .i64) (.int .i64))) [(0, 1, 1), (1, 2, 0), (1, 3, 0)])] ?_
 obtain ⟨v0, hv1, h⟩ := Option.bind_eq_some_iff.1 h
 refine zC [7, 12] [] (hc_refine_Shows (2, [(0, 1, 1), (1, 2, 0), (1, 3, 0)]) (2, [(0, 1, 1), (1, 2, 0)]) hv1) [(17, .tup [.own 27000, .int .i64 v0.2])] [(27000, .arr 3 (.int .i64) v0.1)] ?_
 refine zB [(3, .own 27000), (4, .int .i64 v0.2)] [(27000, .arr 3 (.int .i64) v0.1)] ?_
 refine zo ?_
 refine zS 3 [(3, .own 27000), (22, .bool (decide (v0.2 = 0)))] [(27000, .arr 3 (.int .i64) v0.1)] ?_
 rcases zI h with ⟨hb2, h⟩ | ⟨hb2, h⟩
 ·refine zS 2 [(22, .bool true), (23, .own 27000), (24, .own 24)] [(24, .arr 3 (.int .i64) [1, 3]), (27000, .arr 3 (.int .i64) v0.1)] ?_
  obtain ⟨v0_2, hv3, h⟩ := Option.bind_eq_some_iff.1 h
  refine zG [24, 27000] [] (hc_linealref05_SameInts v0.1 [1, 3] hv3) [(22, .bool true), (25, .bool v0_2)] [] ?_
  refine zB [(0, .bool v0_2)] [] ?_
  refine AW.ret ?_
  obtain rfl := Option.some.inj h
  exact zR [] [] []
 ·refine zB [(0, .bool false)] [] ?_
  refine AW.ret ?_
  obtain rfl := Option.some.inj h
  exact zR [] [] []

theorem hc_linealref05_IsState (s : Int × (List (Int × Int × Int))) (n : Int) {r : Bool} (h : linealref05_IsState s n = some r) : HC Try.prog 62 [] [.agg [.int .i64 s.1, .sl (.pair (.int .i64) (.pair (.int .i64) (.int .i64))) s.2], .int .i64 n] [] (.bool r) := by
 unfold linealref05_IsState at h
 refine zH Try.func62 [.tmp 4] 13 ?_
 refine zo ?_
 refine zB [(1, .int .i64 n), (2, .bp 2 0)] [(2, .box 24 [.int .i64 s.1, .sl (.pair (.int .i64) (.pair (.int .i64) (.int .i64))) s.2])] ?_
 refine zo ?_
 refine zS 3 [(1, .int .i64 n), (2, .bp 2 0), (7, .bool (decide (0 ≤ n)))] [(2, .box 24 [.int .i64 s.1, .sl (.pair (.int .i64) (.pair (.int .i64) (.int .i64))) s.2])] ?_
 rcases zI h with ⟨hb1, h⟩ | ⟨hb1, h⟩
 ·refine zS 5 [(12, .bool (decide (n < s.1)))] [] ?_
  refine zB [(4, .bool (decide (n < s.1)))] [] ?_
  refine AW.ret ?_
  obtain rfl := Option.some.inj h
  exact zR [] [] []
 ·refine zS 4 [(7, .bool false), (11, .cv (undef))] [] ?_
  refine zB [(4, .bool false)] [] ?_
  refine AW.ret ?_
  obtain rfl := Option.some.inj h
  exact zR [] [] []

theorem hc_linealref05_Valid (s : Int × (List (Int × Int × Int))) {r : Bool} (h : linealref05_Valid s = some r) : HC Try.prog 21 [] [.agg [.int .i64 s.1, .sl (.pair (.int .i64) (.pair (.int .i64) (.int .i64))) s.2]] [] (.bool r) := by
 unfold linealref05_Valid at h
 refine zH Try.func21 [.tmp 2] 65 ?_
 refine zo ?_
 refine zB [(1, .bp 1 0)] [(1, .box 24 [.int .i64 s.1, .sl (.pair (.int .i64) (.pair (.int .i64) (.int .i64))) s.2])] ?_
 refine AW.seq ?_
 refine zo ?_
 refine zS 4 [(1, .bp 1 0), (10, .bool (decide (s.1 < 1)))] [(1, .box 24 [.int .i64 s.1, .sl (.pair (.int .i64) (.pair (.int .i64) (.int .i64))) s.2])] ?_
 rcases zI h with ⟨hb1, h⟩ | ⟨hb1, h⟩
 ·refine zS 5 [(1, .bp 1 0), (15, .bool true)] [(1, .box 24 [.int .i64 s.1, .sl (.pair (.int .i64) (.pair (.int .i64) (.int .i64))) s.2])] ?_
  refine zS 4 [(1, .bp 1 0), (15, .bool true), (19, .cv (undef))] [(1, .box 24 [.int .i64 s.1, .sl (.pair (.int .i64) (.pair (.int .i64) (.int .i64))) s.2])] ?_
  refine zB [(1, .bp 1 0), (20, .bool true)] [(1, .box 24 [.int .i64 s.1, .sl (.pair (.int .i64) (.pair (.int .i64) (.int .i64))) s.2])] ?_
  refine AW.cond (b := true) rfl (fun _ => ?_) (fun hb2 => by cases hb2)
  refine zo ?_
  refine zB [(2, .bool false)] [] ?_
  refine zr ?_
  obtain rfl := Option.some.inj h
  exact zR [] [] []
 ·refine zS 5 [(1, .bp 1 0), (15, .bool (decide (6 < s.1)))] [(1, .box 24 [.int .i64 s.1, .sl (.pair (.int .i64) (.pair (.int .i64) (.int .i64))) s.2])] ?_
  rcases zI h with ⟨hb3, h⟩ | ⟨hb3, h⟩
  ·refine zS 4 [(1, .bp 1 0), (15, .bool true), (19, .cv (undef))] [(1, .box 24 [.int .i64 s.1, .sl (.pair (.int .i64) (.pair (.int .i64) (.int .i64))) s.2])] ?_
   refine zB [(1, .bp 1 0), (20, .bool true)] [(1, .box 24 [.int .i64 s.1, .sl (.pair (.int .i64) (.pair (.int .i64) (.int .i64))) s.2])] ?_
   refine AW.cond (b := true) rfl (fun _ => ?_) (fun hb4 => by cases hb4)
   refine zo ?_
   refine zB [(2, .bool false)] [] ?_
   refine zr ?_
   obtain rfl := Option.some.inj h
   exact zR [] [] []
  ·refine zB [(1, .bp 1 0), (20, .bool (decide (24 < (s.2.length : Int))))] [(1, .box 24 [.int .i64 s.1, .sl (.pair (.int .i64) (.pair (.int .i64) (.int .i64))) s.2])] ?_
   refine zQ h (fun hb5 h => ?_) (fun hb5 h => ?_)
   ·refine zo ?_
    refine zB [(2, .bool false)] [] ?_
    refine zr ?_
    obtain rfl := Option.some.inj h
    exact zR [] [] []
   ·refine zk ?_
    refine AW.have1 (fun _ : Unit => linealref05_Valid_k1 = some r) (fun _ => ⟨fr [], hpGet [], gt⟩) (fun _ h => ?_) (fun hk_linealref05_Valid_k1 => ?_)
    ·as_aux_lemma =>
      unfold linealref05_Valid_k1 at h
      refine zo ?_
      refine zB [(2, .bool true)] [] ?_
      refine AW.ret ?_
      obtain rfl := Option.some.inj h
      exact zR [] [] []
    ·refine AW.seq ?_
     refine zo ?_
     refine zB [(1, .bp 1 0), (22, .sl (.pair (.int .i64) (.pair (.int .i64) (.int .i64))) s.2), (23, .int .i64 (s.2.length : Int)), (24, .int .i64 0)] [(1, .box 24 [.int .i64 s.1, .sl (.pair (.int .i64) (.pair (.int .i64) (.int .i64))) s.2])] ?_
     refine AW.block ?_
     obtain ⟨rv10, hw6, ho7⟩ := Option.bind_eq_some_iff.1 h
     refine AW.loopO (linealref05_Valid_b1 s) (fun st1 => ⟨fr [(1, .bp 1 0), (22, .sl (.pair (.int .i64) (.pair (.int .i64) (.int .i64))) s.2), (23, .int .i64 (s.2.length : Int)), (24, .int .i64 st1)], hpGet [(1, .box 24 [.int .i64 s.1, .sl (.pair (.int .i64) (.pair (.int .i64) (.int .i64))) s.2])], gt⟩) 0 hw6 (zL [] [] []) ?_
     as_aux_lemma =>
      intro st1 x9 h hd8
      unfold linealref05_Valid_b1 at h
      refine zo ?_
      refine zB [(1, .bp 1 0), (22, .sl (.pair (.int .i64) (.pair (.int .i64) (.int .i64))) s.2), (23, .int .i64 (s.2.length : Int)), (24, .int .i64 st1), (25, .bool (decide (st1 < (s.2.length : Int))))] [(1, .box 24 [.int .i64 s.1, .sl (.pair (.int .i64) (.pair (.int .i64) (.int .i64))) s.2])] ?_
      refine AW.seq ?_
      refine zQ h (fun hb11 h => ?_) (fun hb11 h => ?_)
      ·refine zk ?_
       refine AW.have1 (fun _ : Unit => linealref05_Valid_k2 st1 = some x9) (fun _ => ⟨fr [(1, .bp 1 0), (22, .sl (.pair (.int .i64) (.pair (.int .i64) (.int .i64))) s.2), (23, .int .i64 (s.2.length : Int)), (24, .int .i64 st1)], hpGet [(1, .box 24 [.int .i64 s.1, .sl (.pair (.int .i64) (.pair (.int .i64) (.int .i64))) s.2])], gt⟩) (fun _ h => ?_) (fun hk_linealref05_Valid_k2 => ?_)
       ·as_aux_lemma =>
         unfold linealref05_Valid_k2 at h
         refine AW.ops ?_
         obtain ⟨c12, h⟩ := ck_some.1 h
         refine zA [(1, .bp 1 0), (22, .sl (.pair (.int .i64) (.pair (.int .i64) (.int .i64))) s.2), (23, .int .i64 (s.2.length : Int)), (24, .int .i64 (st1 + 1))] [(1, .box 24 [.int .i64 s.1, .sl (.pair (.int .i64) (.pair (.int .i64) (.int .i64))) s.2])] ?_
         obtain rfl := Option.some.inj h
         exact ⟨_, rfl, zL [] [] []⟩
       ·refine AW.seq ?_
        refine AW.block ?_
        refine zo ?_
        obtain ⟨c13, h⟩ := ck_some.1 h
        obtain ⟨c14, h⟩ := ck_some.1 h
        refine zS 5 [(1, .bp 1 0), (3, .int .i64 st1), (4, .bp 4 0), (22, .sl (.pair (.int .i64) (.pair (.int .i64) (.int .i64))) s.2), (23, .int .i64 (s.2.length : Int)), (24, .int .i64 st1), (28, .agg [.int .i64 (s.2.getD st1.toNat (0, 0, 0)).1, .int .i64 (s.2.getD st1.toNat (0, 0, 0)).2.1, .int .i64 (s.2.getD st1.toNat (0, 0, 0)).2.2])] [(1, .box 24 [.int .i64 s.1, .sl (.pair (.int .i64) (.pair (.int .i64) (.int .i64))) s.2]), (4, .box 66 [.int .i64 0, .int .i64 0, .int .i64 0])] ?_
        refine zB [(1, .bp 1 0), (3, .int .i64 st1), (4, .bp 4 0), (22, .sl (.pair (.int .i64) (.pair (.int .i64) (.int .i64))) s.2), (23, .int .i64 (s.2.length : Int)), (24, .int .i64 st1)] [(1, .box 24 [.int .i64 s.1, .sl (.pair (.int .i64) (.pair (.int .i64) (.int .i64))) s.2]), (4, .box 66 [.int .i64 (s.2.getD st1.toNat (0, 0, 0)).1, .int .i64 (s.2.getD st1.toNat (0, 0, 0)).2.1, .int .i64 (s.2.getD st1.toNat (0, 0, 0)).2.2])] ?_
        refine AW.seq ?_
        refine zo ?_
        refine zS 3 [(1, .bp 1 0), (3, .int .i64 st1), (4, .bp 4 0), (22, .sl (.pair (.int .i64) (.pair (.int .i64) (.int .i64))) s.2), (23, .int .i64 (s.2.length : Int)), (24, .int .i64 st1), (29, .agg [.int .i64 s.1, .sl (.pair (.int .i64) (.pair (.int .i64) (.int .i64))) s.2]), (31, .int .i64 (s.2.getD st1.toNat (0, 0, 0)).1)] [(1, .box 24 [.int .i64 s.1, .sl (.pair (.int .i64) (.pair (.int .i64) (.int .i64))) s.2]), (4, .box 66 [.int .i64 (s.2.getD st1.toNat (0, 0, 0)).1, .int .i64 (s.2.getD st1.toNat (0, 0, 0)).2.1, .int .i64 (s.2.getD st1.toNat (0, 0, 0)).2.2])] ?_
        obtain ⟨v0, hv15, h⟩ := Option.bind_eq_some_iff.1 h
        refine zC [] [] (hc_linealref05_IsState s (s.2.getD st1.toNat (0, 0, 0)).1 hv15) [(1, .bp 1 0), (3, .int .i64 st1), (4, .bp 4 0), (22, .sl (.pair (.int .i64) (.pair (.int .i64) (.int .i64))) s.2), (23, .int .i64 (s.2.length : Int)), (24, .int .i64 st1), (32, .bool v0)] [(1, .box 24 [.int .i64 s.1, .sl (.pair (.int .i64) (.pair (.int .i64) (.int .i64))) s.2]), (4, .box 66 [.int .i64 (s.2.getD st1.toNat (0, 0, 0)).1, .int .i64 (s.2.getD st1.toNat (0, 0, 0)).2.1, .int .i64 (s.2.getD st1.toNat (0, 0, 0)).2.2])] ?_
        refine zS 2 [(1, .bp 1 0), (3, .int .i64 st1), (4, .bp 4 0), (22, .sl (.pair (.int .i64) (.pair (.int .i64) (.int .i64))) s.2), (23, .int .i64 (s.2.length : Int)), (24, .int .i64 st1), (34, .bool (!v0))] [(1, .box 24 [.int .i64 s.1, .sl (.pair (.int .i64) (.pair (.int .i64) (.int .i64))) s.2]), (4, .box 66 [.int .i64 (s.2.getD st1.toNat (0, 0, 0)).1, .int .i64 (s.2.getD st1.toNat (0, 0, 0)).2.1, .int .i64 (s.2.getD st1.toNat (0, 0, 0)).2.2])] ?_
        rcases zI h with ⟨hb16, h⟩ | ⟨hb16, h⟩
        ·refine zS 4 [(1, .bp 1 0), (3, .int .i64 st1), (4, .bp 4 0), (22, .sl (.pair (.int .i64) (.pair (.int .i64) (.int .i64))) s.2), (23, .int .i64 (s.2.length : Int)), (24, .int .i64 st1), (34, .bool true), (38, .cv (undef))] [(1, .box 24 [.int .i64 s.1, .sl (.pair (.int .i64) (.pair (.int .i64) (.int .i64))) s.2]), (4, .box 66 [.int .i64 (s.2.getD st1.toNat (0, 0, 0)).1, .int .i64 (s.2.getD st1.toNat (0, 0, 0)).2.1, .int .i64 (s.2.getD st1.toNat (0, 0, 0)).2.2])] ?_
         refine zS 5 [(1, .bp 1 0), (3, .int .i64 st1), (4, .bp 4 0), (22, .sl (.pair (.int .i64) (.pair (.int .i64) (.int .i64))) s.2), (23, .int .i64 (s.2.length : Int)), (24, .int .i64 st1), (41, .bool true), (43, .cv (undef))] [(1, .box 24 [.int .i64 s.1, .sl (.pair (.int .i64) (.pair (.int .i64) (.int .i64))) s.2]), (4, .box 66 [.int .i64 (s.2.getD st1.toNat (0, 0, 0)).1, .int .i64 (s.2.getD st1.toNat (0, 0, 0)).2.1, .int .i64 (s.2.getD st1.toNat (0, 0, 0)).2.2])] ?_
         refine zS 5 [(1, .bp 1 0), (3, .int .i64 st1), (4, .bp 4 0), (22, .sl (.pair (.int .i64) (.pair (.int .i64) (.int .i64))) s.2), (23, .int .i64 (s.2.length : Int)), (24, .int .i64 st1), (46, .bool true), (48, .cv (undef))] [(1, .box 24 [.int .i64 s.1, .sl (.pair (.int .i64) (.pair (.int .i64) (.int .i64))) s.2]), (4, .box 66 [.int .i64 (s.2.getD st1.toNat (0, 0, 0)).1, .int .i64 (s.2.getD st1.toNat (0, 0, 0)).2.1, .int .i64 (s.2.getD st1.toNat (0, 0, 0)).2.2])] ?_
         refine zB [(1, .bp 1 0), (3, .int .i64 st1), (4, .bp 4 0), (22, .sl (.pair (.int .i64) (.pair (.int .i64) (.int .i64))) s.2), (23, .int .i64 (s.2.length : Int)), (24, .int .i64 st1), (50, .bool true)] [(1, .box 24 [.int .i64 s.1, .sl (.pair (.int .i64) (.pair (.int .i64) (.int .i64))) s.2]), (4, .box 66 [.int .i64 (s.2.getD st1.toNat (0, 0, 0)).1, .int .i64 (s.2.getD st1.toNat (0, 0, 0)).2.1, .int .i64 (s.2.getD st1.toNat (0, 0, 0)).2.2])] ?_
         refine AW.cond (b := true) rfl (fun _ => ?_) (fun hb17 => by cases hb17)
         refine zo ?_
         refine zB [(2, .bool false)] [] ?_
         refine zr ?_
         refine ablock_r ?_
         refine athen_r ?_
         obtain rfl := Option.some.inj h
         rw [← hd8 _ rfl] at ho7
         have h := ho7
         try simp only at h
         refine athen_r ?_
         refine ablock_r ?_
         refine athen_r ?_
         obtain rfl := Option.some.inj h
         exact zR [] [] []
        ·refine zS 3 [(1, .bp 1 0), (3, .int .i64 st1), (4, .bp 4 0), (22, .sl (.pair (.int .i64) (.pair (.int .i64) (.int .i64))) s.2), (23, .int .i64 (s.2.length : Int)), (24, .int .i64 st1), (34, .bool false), (35, .agg [.int .i64 s.1, .sl (.pair (.int .i64) (.pair (.int .i64) (.int .i64))) s.2]), (37, .int .i64 (s.2.getD st1.toNat (0, 0, 0)).2.2)] [(1, .box 24 [.int .i64 s.1, .sl (.pair (.int .i64) (.pair (.int .i64) (.int .i64))) s.2]), (4, .box 66 [.int .i64 (s.2.getD st1.toNat (0, 0, 0)).1, .int .i64 (s.2.getD st1.toNat (0, 0, 0)).2.1, .int .i64 (s.2.getD st1.toNat (0, 0, 0)).2.2])] ?_
         obtain ⟨v0_2, hv18, h⟩ := Option.bind_eq_some_iff.1 h
         refine zG [] [] (hc_linealref05_IsState s (s.2.getD st1.toNat (0, 0, 0)).2.2 hv18) [(1, .bp 1 0), (3, .int .i64 st1), (4, .bp 4 0), (22, .sl (.pair (.int .i64) (.pair (.int .i64) (.int .i64))) s.2), (23, .int .i64 (s.2.length : Int)), (24, .int .i64 st1), (34, .bool false), (38, .bool v0_2)] [(1, .box 24 [.int .i64 s.1, .sl (.pair (.int .i64) (.pair (.int .i64) (.int .i64))) s.2]), (4, .box 66 [.int .i64 (s.2.getD st1.toNat (0, 0, 0)).1, .int .i64 (s.2.getD st1.toNat (0, 0, 0)).2.1, .int .i64 (s.2.getD st1.toNat (0, 0, 0)).2.2])] ?_
         refine zS 3 [(1, .bp 1 0), (3, .int .i64 st1), (4, .bp 4 0), (22, .sl (.pair (.int .i64) (.pair (.int .i64) (.int .i64))) s.2), (23, .int .i64 (s.2.length : Int)), (24, .int .i64 st1), (41, .bool (!v0_2))] [(1, .box 24 [.int .i64 s.1, .sl (.pair (.int .i64) (.pair (.int .i64) (.int .i64))) s.2]), (4, .box 66 [.int .i64 (s.2.getD st1.toNat (0, 0, 0)).1, .int .i64 (s.2.getD st1.toNat (0, 0, 0)).2.1, .int .i64 (s.2.getD st1.toNat (0, 0, 0)).2.2])] ?_
         rcases zI h with ⟨hb19, h⟩ | ⟨hb19, h⟩
         ·refine zS 5 [(1, .bp 1 0), (3, .int .i64 st1), (4, .bp 4 0), (22, .sl (.pair (.int .i64) (.pair (.int .i64) (.int .i64))) s.2), (23, .int .i64 (s.2.length : Int)), (24, .int .i64 st1), (46, .bool true)] [(1, .box 24 [.int .i64 s.1, .sl (.pair (.int .i64) (.pair (.int .i64) (.int .i64))) s.2]), (4, .box 66 [.int .i64 (s.2.getD st1.toNat (0, 0, 0)).1, .int .i64 (s.2.getD st1.toNat (0, 0, 0)).2.1, .int .i64 (s.2.getD st1.toNat (0, 0, 0)).2.2])] ?_
          refine zB [(1, .bp 1 0), (3, .int .i64 st1), (4, .bp 4 0), (22, .sl (.pair (.int .i64) (.pair (.int .i64) (.int .i64))) s.2), (23, .int .i64 (s.2.length : Int)), (24, .int .i64 st1), (50, .bool true)] [(1, .box 24 [.int .i64 s.1, .sl (.pair (.int .i64) (.pair (.int .i64) (.int .i64))) s.2]), (4, .box 66 [.int .i64 (s.2.getD st1.toNat (0, 0, 0)).1, .int .i64 (s.2.getD st1.toNat (0, 0, 0)).2.1, .int .i64 (s.2.getD st1.toNat (0, 0, 0)).2.2])] ?_
          refine AW.cond (b := true) rfl (fun _ => ?_) (fun hb20 => by cases hb20)
          refine zo ?_
          refine zB [(2, .bool false)] [] ?_
          refine zr ?_
          refine ablock_r ?_
          refine athen_r ?_
          obtain rfl := Option.some.inj h
          rw [← hd8 _ rfl] at ho7
          have h := ho7
          try simp only at h
          refine athen_r ?_
          refine ablock_r ?_
          refine athen_r ?_
          obtain rfl := Option.some.inj h
          exact zR [] [] []
         ·refine zS 5 [(1, .bp 1 0), (3, .int .i64 st1), (4, .bp 4 0), (22, .sl (.pair (.int .i64) (.pair (.int .i64) (.int .i64))) s.2), (23, .int .i64 (s.2.length : Int)), (24, .int .i64 st1), (46, .bool (decide ((s.2.getD st1.toNat (0, 0, 0)).2.1 < 0)))] [(1, .box 24 [.int .i64 s.1, .sl (.pair (.int .i64) (.pair (.int .i64) (.int .i64))) s.2]), (4, .box 66 [.int .i64 (s.2.getD st1.toNat (0, 0, 0)).1, .int .i64 (s.2.getD st1.toNat (0, 0, 0)).2.1, .int .i64 (s.2.getD st1.toNat (0, 0, 0)).2.2])] ?_
          rcases zI h with ⟨hb21, h⟩ | ⟨hb21, h⟩
          ·refine zB [(1, .bp 1 0), (3, .int .i64 st1), (4, .bp 4 0), (22, .sl (.pair (.int .i64) (.pair (.int .i64) (.int .i64))) s.2), (23, .int .i64 (s.2.length : Int)), (24, .int .i64 st1), (50, .bool true)] [(1, .box 24 [.int .i64 s.1, .sl (.pair (.int .i64) (.pair (.int .i64) (.int .i64))) s.2]), (4, .box 66 [.int .i64 (s.2.getD st1.toNat (0, 0, 0)).1, .int .i64 (s.2.getD st1.toNat (0, 0, 0)).2.1, .int .i64 (s.2.getD st1.toNat (0, 0, 0)).2.2])] ?_
           refine AW.cond (b := true) rfl (fun _ => ?_) (fun hb22 => by cases hb22)
           refine zo ?_
           refine zB [(2, .bool false)] [] ?_
           refine zr ?_
           refine ablock_r ?_
           refine athen_r ?_
           obtain rfl := Option.some.inj h
           rw [← hd8 _ rfl] at ho7
           have h := ho7
           try simp only at h
           refine athen_r ?_
           refine ablock_r ?_
           refine athen_r ?_
           obtain rfl := Option.some.inj h
           exact zR [] [] []
          ·refine zB [(1, .bp 1 0), (3, .int .i64 st1), (4, .bp 4 0), (22, .sl (.pair (.int .i64) (.pair (.int .i64) (.int .i64))) s.2), (23, .int .i64 (s.2.length : Int)), (24, .int .i64 st1), (50, .bool (decide (3 < (s.2.getD st1.toNat (0, 0, 0)).2.1)))] [(1, .box 24 [.int .i64 s.1, .sl (.pair (.int .i64) (.pair (.int .i64) (.int .i64))) s.2]), (4, .box 66 [.int .i64 (s.2.getD st1.toNat (0, 0, 0)).1, .int .i64 (s.2.getD st1.toNat (0, 0, 0)).2.1, .int .i64 (s.2.getD st1.toNat (0, 0, 0)).2.2])] ?_
           refine zQ h (fun hb23 h => ?_) (fun hb23 h => ?_)
           ·refine zo ?_
            refine zB [(2, .bool false)] [] ?_
            refine zr ?_
            refine ablock_r ?_
            refine athen_r ?_
            obtain rfl := Option.some.inj h
            rw [← hd8 _ rfl] at ho7
            have h := ho7
            try simp only at h
            refine athen_r ?_
            refine ablock_r ?_
            refine athen_r ?_
            obtain rfl := Option.some.inj h
            exact zR [] [] []
           ·refine zk ?_
            refine zo ?_
            obtain ⟨c24, h⟩ := ck_some.1 h
            obtain ⟨c25, h⟩ := ck_some.1 h
            refine zS 5 [(1, .bp 1 0), (4, .bp 4 0), (22, .sl (.pair (.int .i64) (.pair (.int .i64) (.int .i64))) s.2), (23, .int .i64 (s.2.length : Int)), (24, .int .i64 st1), (54, .sl (.pair (.int .i64) (.pair (.int .i64) (.int .i64))) (s.2.take st1.toNat)), (55, .int .i64 ((s.2.take st1.toNat).length : Int))] [(1, .box 24 [.int .i64 s.1, .sl (.pair (.int .i64) (.pair (.int .i64) (.int .i64))) s.2]), (4, .box 66 [.int .i64 (s.2.getD st1.toNat (0, 0, 0)).1, .int .i64 (s.2.getD st1.toNat (0, 0, 0)).2.1, .int .i64 (s.2.getD st1.toNat (0, 0, 0)).2.2])] ?_
            refine zB [(1, .bp 1 0), (4, .bp 4 0), (22, .sl (.pair (.int .i64) (.pair (.int .i64) (.int .i64))) s.2), (23, .int .i64 (s.2.length : Int)), (24, .int .i64 st1), (54, .sl (.pair (.int .i64) (.pair (.int .i64) (.int .i64))) (s.2.take st1.toNat)), (55, .int .i64 ((s.2.take st1.toNat).length : Int)), (56, .int .i64 0)] [(1, .box 24 [.int .i64 s.1, .sl (.pair (.int .i64) (.pair (.int .i64) (.int .i64))) s.2]), (4, .box 66 [.int .i64 (s.2.getD st1.toNat (0, 0, 0)).1, .int .i64 (s.2.getD st1.toNat (0, 0, 0)).2.1, .int .i64 (s.2.getD st1.toNat (0, 0, 0)).2.2])] ?_
            refine AW.block ?_
            obtain ⟨rv30, hw26, ho27⟩ := Option.bind_eq_some_iff.1 h
            refine AW.loopO (linealref05_Valid_b2 s st1) (fun st2 => ⟨fr [(1, .bp 1 0), (4, .bp 4 0), (22, .sl (.pair (.int .i64) (.pair (.int .i64) (.int .i64))) s.2), (23, .int .i64 (s.2.length : Int)), (24, .int .i64 st1), (54, .sl (.pair (.int .i64) (.pair (.int .i64) (.int .i64))) (s.2.take st1.toNat)), (55, .int .i64 ((s.2.take st1.toNat).length : Int)), (56, .int .i64 st2)], hpGet [(1, .box 24 [.int .i64 s.1, .sl (.pair (.int .i64) (.pair (.int .i64) (.int .i64))) s.2]), (4, .box 66 [.int .i64 (s.2.getD st1.toNat (0, 0, 0)).1, .int .i64 (s.2.getD st1.toNat (0, 0, 0)).2.1, .int .i64 (s.2.getD st1.toNat (0, 0, 0)).2.2])], gt⟩) 0 hw26 (zL [] [] []) ?_
            as_aux_lemma =>
             intro st2 x29 h hd28
             unfold linealref05_Valid_b2 at h
             refine zo ?_
             refine zB [(1, .bp 1 0), (4, .bp 4 0), (22, .sl (.pair (.int .i64) (.pair (.int .i64) (.int .i64))) s.2), (23, .int .i64 (s.2.length : Int)), (24, .int .i64 st1), (54, .sl (.pair (.int .i64) (.pair (.int .i64) (.int .i64))) (s.2.take st1.toNat)), (55, .int .i64 ((s.2.take st1.toNat).length : Int)), (56, .int .i64 st2), (57, .bool (decide (st2 < ((s.2.take st1.toNat).length : Int))))] [(1, .box 24 [.int .i64 s.1, .sl (.pair (.int .i64) (.pair (.int .i64) (.int .i64))) s.2]), (4, .box 66 [.int .i64 (s.2.getD st1.toNat (0, 0, 0)).1, .int .i64 (s.2.getD st1.toNat (0, 0, 0)).2.1, .int .i64 (s.2.getD st1.toNat (0, 0, 0)).2.2])] ?_
             refine AW.seq ?_
             refine zQ h (fun hb31 h => ?_) (fun hb31 h => ?_)
             ·refine zk ?_
              refine AW.seq ?_
              refine AW.block ?_
              refine zo ?_
              obtain ⟨c32, h⟩ := ck_some.1 h
              obtain ⟨c33, h⟩ := ck_some.1 h
              refine zB [(1, .bp 1 0), (4, .bp 4 0), (6, .bp 6 0), (22, .sl (.pair (.int .i64) (.pair (.int .i64) (.int .i64))) s.2), (23, .int .i64 (s.2.length : Int)), (24, .int .i64 st1), (54, .sl (.pair (.int .i64) (.pair (.int .i64) (.int .i64))) (s.2.take st1.toNat)), (55, .int .i64 ((s.2.take st1.toNat).length : Int)), (56, .int .i64 st2)] [(1, .box 24 [.int .i64 s.1, .sl (.pair (.int .i64) (.pair (.int .i64) (.int .i64))) s.2]), (4, .box 66 [.int .i64 (s.2.getD st1.toNat (0, 0, 0)).1, .int .i64 (s.2.getD st1.toNat (0, 0, 0)).2.1, .int .i64 (s.2.getD st1.toNat (0, 0, 0)).2.2]), (6, .box 66 [.int .i64 ((s.2.take st1.toNat).getD st2.toNat (0, 0, 0)).1, .int .i64 ((s.2.take st1.toNat).getD st2.toNat (0, 0, 0)).2.1, .int .i64 ((s.2.take st1.toNat).getD st2.toNat (0, 0, 0)).2.2])] ?_
              refine zo ?_
              refine zS 2 [(1, .bp 1 0), (4, .bp 4 0), (22, .sl (.pair (.int .i64) (.pair (.int .i64) (.int .i64))) s.2), (23, .int .i64 (s.2.length : Int)), (24, .int .i64 st1), (54, .sl (.pair (.int .i64) (.pair (.int .i64) (.int .i64))) (s.2.take st1.toNat)), (55, .int .i64 ((s.2.take st1.toNat).length : Int)), (56, .int .i64 st2), (60, .agg [.int .i64 (s.2.getD st1.toNat (0, 0, 0)).1, .int .i64 (s.2.getD st1.toNat (0, 0, 0)).2.1, .int .i64 (s.2.getD st1.toNat (0, 0, 0)).2.2]), (61, .agg [.int .i64 ((s.2.take st1.toNat).getD st2.toNat (0, 0, 0)).1, .int .i64 ((s.2.take st1.toNat).getD st2.toNat (0, 0, 0)).2.1, .int .i64 ((s.2.take st1.toNat).getD st2.toNat (0, 0, 0)).2.2])] [(1, .box 24 [.int .i64 s.1, .sl (.pair (.int .i64) (.pair (.int .i64) (.int .i64))) s.2]), (4, .box 66 [.int .i64 (s.2.getD st1.toNat (0, 0, 0)).1, .int .i64 (s.2.getD st1.toNat (0, 0, 0)).2.1, .int .i64 (s.2.getD st1.toNat (0, 0, 0)).2.2])] ?_
              obtain ⟨c34, h⟩ := ck_some.1 h
              obtain ⟨c35, h⟩ := ck_some.1 h
              obtain ⟨c36, h⟩ := ck_some.1 h
              obtain ⟨c37, h⟩ := ck_some.1 h
              obtain ⟨c38, h⟩ := ck_some.1 h
              obtain ⟨c39, h⟩ := ck_some.1 h
              refine AO.aggEq (neg := false) eqty_66 (by decide) rfl rfl (lx := [.int .i64 (s.2.getD st1.toNat (0, 0, 0)).1, .int .i64 (s.2.getD st1.toNat (0, 0, 0)).2.1, .int .i64 (s.2.getD st1.toNat (0, 0, 0)).2.2]) (ly := [.int .i64 ((s.2.take st1.toNat).getD st2.toNat (0, 0, 0)).1, .int .i64 ((s.2.take st1.toNat).getD st2.toNat (0, 0, 0)).2.1, .int .i64 ((s.2.take st1.toNat).getD st2.toNat (0, 0, 0)).2.2]) (by first | rfl | (simp only [go_sem, hb1, hb3, hb5, hb11, hb16, hb19, hb21, hb23, hb31]) <;> (with_reducible and_intros) <;> first | assumption | rfl | omega | (unfold maxLen; omega)) (by first | rfl | (simp only [go_sem, hb1, hb3, hb5, hb11, hb16, hb19, hb21, hb23, hb31]) <;> (with_reducible and_intros) <;> first | assumption | rfl | omega | (unfold maxLen; omega)) (by first | rfl | (simp only [go_sem, hb1, hb3, hb5, hb11, hb16, hb19, hb21, hb23, hb31]) <;> (with_reducible and_intros) <;> first | assumption | rfl | omega | (unfold maxLen; omega)) (by first | rfl | (simp only [go_sem, hb1, hb3, hb5, hb11, hb16, hb19, hb21, hb23, hb31]) <;> (with_reducible and_intros) <;> first | assumption | rfl | omega | (unfold maxLen; omega)) (by first | assumption | omega | (simp only [go_sem, hb1, hb3, hb5, hb11, hb16, hb19, hb21, hb23, hb31]) <;> (with_reducible and_intros) <;> first | assumption | rfl | omega | (unfold maxLen; omega)) (by first | assumption | omega | (simp only [go_sem, hb1, hb3, hb5, hb11, hb16, hb19, hb21, hb23, hb31]) <;> (with_reducible and_intros) <;> first | assumption | rfl | omega | (unfold maxLen; omega)) ?_
              refine zT [(1, .bp 1 0), (4, .bp 4 0), (22, .sl (.pair (.int .i64) (.pair (.int .i64) (.int .i64))) s.2), (23, .int .i64 (s.2.length : Int)), (24, .int .i64 st1), (54, .sl (.pair (.int .i64) (.pair (.int .i64) (.int .i64))) (s.2.take st1.toNat)), (55, .int .i64 ((s.2.take st1.toNat).length : Int)), (56, .int .i64 st2), (62, .bool (decide ((s.2.getD st1.toNat (0, 0, 0)) = ((s.2.take st1.toNat).getD st2.toNat (0, 0, 0)))))] [(1, .box 24 [.int .i64 s.1, .sl (.pair (.int .i64) (.pair (.int .i64) (.int .i64))) s.2]), (4, .box 66 [.int .i64 (s.2.getD st1.toNat (0, 0, 0)).1, .int .i64 (s.2.getD st1.toNat (0, 0, 0)).2.1, .int .i64 (s.2.getD st1.toNat (0, 0, 0)).2.2])] gt ?_
              refine zB [(1, .bp 1 0), (4, .bp 4 0), (22, .sl (.pair (.int .i64) (.pair (.int .i64) (.int .i64))) s.2), (23, .int .i64 (s.2.length : Int)), (24, .int .i64 st1), (54, .sl (.pair (.int .i64) (.pair (.int .i64) (.int .i64))) (s.2.take st1.toNat)), (55, .int .i64 ((s.2.take st1.toNat).length : Int)), (56, .int .i64 st2), (62, .bool (decide ((s.2.getD st1.toNat (0, 0, 0)) = ((s.2.take st1.toNat).getD st2.toNat (0, 0, 0)))))] [(1, .box 24 [.int .i64 s.1, .sl (.pair (.int .i64) (.pair (.int .i64) (.int .i64))) s.2]), (4, .box 66 [.int .i64 (s.2.getD st1.toNat (0, 0, 0)).1, .int .i64 (s.2.getD st1.toNat (0, 0, 0)).2.1, .int .i64 (s.2.getD st1.toNat (0, 0, 0)).2.2])] ?_
              refine zQ h (fun hb40 h => ?_) (fun hb40 h => ?_)
              ·refine zo ?_
               refine zB [(2, .bool false)] [] ?_
               refine AW.ret ?_
               refine ablock_r ?_
               refine athen_r ?_
               obtain rfl := Option.some.inj h
               rw [← hd28 _ rfl] at ho27
               have h := ho27
               try simp only at h
               refine athen_r ?_
               refine ablock_r ?_
               refine ablock_r ?_
               refine athen_r ?_
               obtain rfl := Option.some.inj h
               rw [← hd8 _ rfl] at ho7
               have h := ho7
               try simp only at h
               refine athen_r ?_
               refine ablock_r ?_
               refine athen_r ?_
               obtain rfl := Option.some.inj h
               exact zR [] [] []
              ·refine zm ?_
               refine athen_n ?_
               refine AW.ops ?_
               obtain ⟨c41, h⟩ := ck_some.1 h
               refine zA [(1, .bp 1 0), (4, .bp 4 0), (22, .sl (.pair (.int .i64) (.pair (.int .i64) (.int .i64))) s.2), (23, .int .i64 (s.2.length : Int)), (24, .int .i64 st1), (54, .sl (.pair (.int .i64) (.pair (.int .i64) (.int .i64))) (s.2.take st1.toNat)), (55, .int .i64 ((s.2.take st1.toNat).length : Int)), (56, .int .i64 (st2 + 1))] [(1, .box 24 [.int .i64 s.1, .sl (.pair (.int .i64) (.pair (.int .i64) (.int .i64))) s.2]), (4, .box 66 [.int .i64 (s.2.getD st1.toNat (0, 0, 0)).1, .int .i64 (s.2.getD st1.toNat (0, 0, 0)).2.1, .int .i64 (s.2.getD st1.toNat (0, 0, 0)).2.2])] ?_
               obtain rfl := Option.some.inj h
               exact ⟨_, rfl, zL [] [] []⟩
             ·refine AW.exit ?_
              refine athen_e ?_
              obtain rfl := Option.some.inj h
              rw [← hd28 _ rfl] at ho27
              have h := ho27
              try simp only at h
              refine athen_e ?_
              refine ablock_s ?_
              refine ablock_n ?_
              refine athen_n ?_
              exact AW.weaken (zL [] [] []) (hk_linealref05_Valid_k2 () h)
      ·refine AW.exit ?_
       refine athen_e ?_
       obtain rfl := Option.some.inj h
       rw [← hd8 _ rfl] at ho7
       have h := ho7
       try simp only at h
       refine athen_e ?_
       refine ablock_s ?_
       refine athen_n ?_
       exact AW.weaken (zL [] [] []) (hk_linealref05_Valid_k1 () h)

theorem hc_linealref05_IsSeen (label : Int) {r : Bool} (h : linealref05_IsSeen label = some r) : HC Try.prog 76 [] [.int .i64 label] [] (.bool r) := by
 unfold linealref05_IsSeen at h
 refine zH Try.func76 [.tmp 2] 9 ?_
 refine zo ?_
 refine zB [(0, .int .i64 label)] [] ?_
 refine zo ?_
 refine zS 3 [(0, .int .i64 label), (5, .bool (decide (1 ≤ label)))] [] ?_
 rcases zI h with ⟨hb1, h⟩ | ⟨hb1, h⟩
 ·refine zB [(2, .bool (decide (label ≤ 3)))] [] ?_
  refine AW.ret ?_
  obtain rfl := Option.some.inj h
  exact zR [] [] []
 ·refine zB [(2, .bool false)] [] ?_
  refine AW.ret ?_
  obtain rfl := Option.some.inj h
  exact zR [] [] []

theorem hc_refine_hide (steps : List (Int × Int × Int)) (label : Int) {r : (List (Int × Int × Int))} (h : refine_hide steps label = some r) : HC Try.prog 96 [] [.sl (.pair (.int .i64) (.pair (.int .i64) (.int .i64))) steps, .int .i64 label] [(2000, .arr 66 (.pair (.int .i64) (.pair (.int .i64) (.int .i64))) r)] (.own 2000) := by
 unfold refine_hide at h
 refine zH Try.func96 [.tmp 4] 29 ?_
 refine zo ?_
 refine zB [(0, .sl (.pair (.int .i64) (.pair (.int .i64) (.int .i64))) steps), (1, .int .i64 label)] [] ?_
 refine zo ?_
 refine zB [(0, .sl (.pair (.int .i64) (.pair (.int .i64) (.int .i64))) steps), (1, .int .i64 label), (5, .cv (.slice none 0 0))] [] ?_
 refine AW.have1 (fun b2_2 : (List (Int × Int × Int)) => refine_hide_k1 b2_2 = some r) (fun b2_2 => ⟨fr [(5, .own 26)], hpGet [(26, .arr 66 (.pair (.int .i64) (.pair (.int .i64) (.int .i64))) b2_2)], gt⟩) (fun b2_2 h => ?_) (fun hk_refine_hide_k1 => ?_)
 ·as_aux_lemma =>
   unfold refine_hide_k1 at h
   refine zo ?_
   refine zB [(4, .own 26)] [(26, .arr 66 (.pair (.int .i64) (.pair (.int .i64) (.int .i64))) b2_2)] ?_
   refine AW.ret ?_
   obtain rfl := Option.some.inj h
   exact zR [] [] [(2000, 26)]
 ·refine AW.seq ?_
  refine zo ?_
  refine zB [(1, .int .i64 label), (5, .cv (.slice none 0 0)), (8, .sl (.pair (.int .i64) (.pair (.int .i64) (.int .i64))) steps), (9, .int .i64 (steps.length : Int)), (10, .int .i64 0)] [] ?_
  refine AW.block ?_
  obtain ⟨rv5, hw1, ho2⟩ := Option.bind_eq_some_iff.1 h
  refine AW.loopO (refine_hide_b1 steps label) (fun st1 => ⟨fr [(1, .int .i64 label), (5, .own 26), (8, .sl (.pair (.int .i64) (.pair (.int .i64) (.int .i64))) steps), (9, .int .i64 (steps.length : Int)), (10, .int .i64 st1.2)], hpGet [(26, .arr 66 (.pair (.int .i64) (.pair (.int .i64) (.int .i64))) st1.1)], gt⟩) ([], 0) hw1 (zL [] [26] []) ?_
  as_aux_lemma =>
   intro st1 x4 h hd3
   unfold refine_hide_b1 at h
   refine zo ?_
   refine zB [(1, .int .i64 label), (5, .own 26), (8, .sl (.pair (.int .i64) (.pair (.int .i64) (.int .i64))) steps), (9, .int .i64 (steps.length : Int)), (10, .int .i64 st1.2), (11, .bool (decide (st1.2 < (steps.length : Int))))] [(26, .arr 66 (.pair (.int .i64) (.pair (.int .i64) (.int .i64))) st1.1)] ?_
   refine AW.seq ?_
   refine zQ h (fun hb6 h => ?_) (fun hb6 h => ?_)
   ·refine zk ?_
    refine AW.seq ?_
    refine AW.block ?_
    refine zo ?_
    obtain ⟨c7, h⟩ := ck_some.1 h
    obtain ⟨c8, h⟩ := ck_some.1 h
    refine zB [(1, .int .i64 label), (5, .own 26), (7, .bp 7 0), (8, .sl (.pair (.int .i64) (.pair (.int .i64) (.int .i64))) steps), (9, .int .i64 (steps.length : Int)), (10, .int .i64 st1.2)] [(7, .box 66 [.int .i64 (steps.getD st1.2.toNat (0, 0, 0)).1, .int .i64 (steps.getD st1.2.toNat (0, 0, 0)).2.1, .int .i64 (steps.getD st1.2.toNat (0, 0, 0)).2.2]), (26, .arr 66 (.pair (.int .i64) (.pair (.int .i64) (.int .i64))) st1.1)] ?_
    refine AW.have1 (fun b2 : Int => refine_hide_k2 steps st1 b2 = some x4) (fun b2 => ⟨fr [(1, .int .i64 label), (5, .own 26), (7, .bp 7 0), (8, .sl (.pair (.int .i64) (.pair (.int .i64) (.int .i64))) steps), (9, .int .i64 (steps.length : Int)), (10, .int .i64 st1.2)], hpGet [(7, .box 66 [.int .i64 (steps.getD st1.2.toNat (0, 0, 0)).1, .int .i64 b2, .int .i64 (steps.getD st1.2.toNat (0, 0, 0)).2.2]), (26, .arr 66 (.pair (.int .i64) (.pair (.int .i64) (.int .i64))) st1.1)], gt⟩) (fun b2 h => ?_) (fun hk_refine_hide_k2 => ?_)
    ·as_aux_lemma =>
      unfold refine_hide_k2 at h
      refine zo ?_
      refine zS 2 [(1, .int .i64 label), (5, .own 26), (7, .bp 7 0), (8, .sl (.pair (.int .i64) (.pair (.int .i64) (.int .i64))) steps), (9, .int .i64 (steps.length : Int)), (10, .int .i64 st1.2), (19, .own 26), (20, .agg [.int .i64 (steps.getD st1.2.toNat (0, 0, 0)).1, .int .i64 b2, .int .i64 (steps.getD st1.2.toNat (0, 0, 0)).2.2])] [(7, .box 66 [.int .i64 (steps.getD st1.2.toNat (0, 0, 0)).1, .int .i64 b2, .int .i64 (steps.getD st1.2.toNat (0, 0, 0)).2.2]), (26, .arr 66 (.pair (.int .i64) (.pair (.int .i64) (.int .i64))) st1.1)] ?_
      obtain ⟨v0, hv9, h⟩ := Option.bind_eq_some_iff.1 h
      refine zC [26] [] (hc_slices_Contains st1.1 ((steps.getD st1.2.toNat (0, 0, 0)).1, b2, (steps.getD st1.2.toNat (0, 0, 0)).2.2) hv9) [(1, .int .i64 label), (5, .own 26), (7, .bp 7 0), (8, .sl (.pair (.int .i64) (.pair (.int .i64) (.int .i64))) steps), (9, .int .i64 (steps.length : Int)), (10, .int .i64 st1.2), (21, .bool v0)] [(7, .box 66 [.int .i64 (steps.getD st1.2.toNat (0, 0, 0)).1, .int .i64 b2, .int .i64 (steps.getD st1.2.toNat (0, 0, 0)).2.2]), (26, .arr 66 (.pair (.int .i64) (.pair (.int .i64) (.int .i64))) st1.1)] ?_
      refine zB [(1, .int .i64 label), (5, .own 26), (7, .bp 7 0), (8, .sl (.pair (.int .i64) (.pair (.int .i64) (.int .i64))) steps), (9, .int .i64 (steps.length : Int)), (10, .int .i64 st1.2), (22, .bool (!v0))] [(7, .box 66 [.int .i64 (steps.getD st1.2.toNat (0, 0, 0)).1, .int .i64 b2, .int .i64 (steps.getD st1.2.toNat (0, 0, 0)).2.2]), (26, .arr 66 (.pair (.int .i64) (.pair (.int .i64) (.int .i64))) st1.1)] ?_
      refine zQ h (fun hb10 h => ?_) (fun hb10 h => ?_)
      ·refine AW.ops ?_
       obtain ⟨c11, h⟩ := ck_some.1 h
       refine zA [(1, .int .i64 label), (5, .own 26), (8, .sl (.pair (.int .i64) (.pair (.int .i64) (.int .i64))) steps), (9, .int .i64 (steps.length : Int)), (10, .int .i64 st1.2)] [(26, .arr 66 (.pair (.int .i64) (.pair (.int .i64) (.int .i64))) (st1.1 ++ [((steps.getD st1.2.toNat (0, 0, 0)).1, b2, (steps.getD st1.2.toNat (0, 0, 0)).2.2)]))] ?_
       refine ablock_n ?_
       refine athen_n ?_
       refine AW.ops ?_
       obtain ⟨c12, h⟩ := ck_some.1 h
       refine zA [(1, .int .i64 label), (5, .own 26), (8, .sl (.pair (.int .i64) (.pair (.int .i64) (.int .i64))) steps), (9, .int .i64 (steps.length : Int)), (10, .int .i64 (st1.2 + 1))] [(26, .arr 66 (.pair (.int .i64) (.pair (.int .i64) (.int .i64))) (st1.1 ++ [((steps.getD st1.2.toNat (0, 0, 0)).1, b2, (steps.getD st1.2.toNat (0, 0, 0)).2.2)]))] ?_
       obtain rfl := Option.some.inj h
       exact ⟨_, rfl, zL [] [] []⟩
      ·refine zm ?_
       refine athen_n ?_
       refine AW.ops ?_
       obtain ⟨c13, h⟩ := ck_some.1 h
       refine zA [(1, .int .i64 label), (5, .own 26), (8, .sl (.pair (.int .i64) (.pair (.int .i64) (.int .i64))) steps), (9, .int .i64 (steps.length : Int)), (10, .int .i64 (st1.2 + 1))] [(26, .arr 66 (.pair (.int .i64) (.pair (.int .i64) (.int .i64))) st1.1)] ?_
       obtain rfl := Option.some.inj h
       exact ⟨_, rfl, zL [] [] []⟩
    ·refine AW.seq ?_
     refine zo ?_
     refine zB [(1, .int .i64 label), (5, .own 26), (7, .bp 7 0), (8, .sl (.pair (.int .i64) (.pair (.int .i64) (.int .i64))) steps), (9, .int .i64 (steps.length : Int)), (10, .int .i64 st1.2), (17, .bool (decide ((steps.getD st1.2.toNat (0, 0, 0)).2.1 = label)))] [(7, .box 66 [.int .i64 (steps.getD st1.2.toNat (0, 0, 0)).1, .int .i64 (steps.getD st1.2.toNat (0, 0, 0)).2.1, .int .i64 (steps.getD st1.2.toNat (0, 0, 0)).2.2]), (26, .arr 66 (.pair (.int .i64) (.pair (.int .i64) (.int .i64))) st1.1)] ?_
     refine zQ h (fun hb14 h => ?_) (fun hb14 h => ?_)
     ·refine AW.ops ?_
      refine zB [(1, .int .i64 label), (5, .own 26), (7, .bp 7 0), (8, .sl (.pair (.int .i64) (.pair (.int .i64) (.int .i64))) steps), (9, .int .i64 (steps.length : Int)), (10, .int .i64 st1.2)] [(7, .box 66 [.int .i64 (steps.getD st1.2.toNat (0, 0, 0)).1, .int .i64 0, .int .i64 (steps.getD st1.2.toNat (0, 0, 0)).2.2]), (26, .arr 66 (.pair (.int .i64) (.pair (.int .i64) (.int .i64))) st1.1)] ?_
      exact AW.weaken (zL [] [] []) (hk_refine_hide_k2 _ h)
     ·refine zk ?_
      exact AW.weaken (zL [] [] []) (hk_refine_hide_k2 _ h)
   ·refine AW.exit ?_
    refine athen_e ?_
    obtain rfl := Option.some.inj h
    rw [← hd3 _ rfl] at ho2
    have h := ho2
    refine athen_e ?_
    refine ablock_s ?_
    refine athen_n ?_
    exact AW.weaken (zL [] [] []) (hk_refine_hide_k1 _ h)

end Go.Proofs.Ytifleoceebaooaa
