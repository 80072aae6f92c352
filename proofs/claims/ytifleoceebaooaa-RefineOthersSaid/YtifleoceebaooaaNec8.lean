/-
  Made by wip/tool/dc.py out of the print of the program: contracts.
-/
import Derived.Test.YtifleoceebaooaaRfp
import Derived.Test.YtifleoceebaooaaShr
import Derived.Test.YtifleoceebaooaaAvd
import Derived.Test.YtifleoceebaooaaNec1
import Derived.Test.YtifleoceebaooaaNec7
namespace Go.Proofs.Ytifleoceebaooaa
open Go.RowKit

set_option linter.unusedSimpArgs false
set_option linter.unusedVariables false
set_option linter.constructorNameAsVariable false

set_option maxRecDepth 100000
set_option maxHeartbeats 2000000

theorem hc_refine_Both (s : Int × (List (Int × Int × Int))) (t : Int × (List (Int × Int × Int))) {r : Int × (List (Int × Int × Int)) × Int} (h : refine_Both s t = some r) : HC Try.prog 52 [] [.agg [.int .i64 s.1, .sl (.pair (.int .i64) (.pair (.int .i64) (.int .i64))) s.2], .agg [.int .i64 t.1, .sl (.pair (.int .i64) (.pair (.int .i64) (.int .i64))) t.2]] [(2000, .arr 66 (.pair (.int .i64) (.pair (.int .i64) (.int .i64))) r.2.1)] (.tup [.agg [.int .i64 r.1, .own 2000], .int .i64 r.2.2]) := by
 unfold refine_Both at h
 refine zH Try.func52 [.cell 4 24, .tmp 5] 36 ?_
 refine zo ?_
 refine zB [(2, .bp 2 0), (3, .bp 3 0), (4, .bp 4 0)] [(2, .box 24 [.int .i64 s.1, .sl (.pair (.int .i64) (.pair (.int .i64) (.int .i64))) s.2]), (3, .box 24 [.int .i64 t.1, .sl (.pair (.int .i64) (.pair (.int .i64) (.int .i64))) t.2]), (4, .box 24 [.int .i64 0, .cv (.slice none 0 0)])] ?_
 refine AW.seq ?_
 refine zo ?_
 refine zS 1 [(2, .bp 2 0), (3, .bp 3 0), (4, .bp 4 0), (7, .agg [.int .i64 s.1, .sl (.pair (.int .i64) (.pair (.int .i64) (.int .i64))) s.2])] [(2, .box 24 [.int .i64 s.1, .sl (.pair (.int .i64) (.pair (.int .i64) (.int .i64))) s.2]), (3, .box 24 [.int .i64 t.1, .sl (.pair (.int .i64) (.pair (.int .i64) (.int .i64))) t.2]), (4, .box 24 [.int .i64 0, .cv (.slice none 0 0)])] ?_
 obtain ⟨v0, hv1, h⟩ := Option.bind_eq_some_iff.1 h
 refine zC [] [] (hc_refine_Valid s hv1) [(2, .bp 2 0), (3, .bp 3 0), (4, .bp 4 0), (8, .bool v0)] [(2, .box 24 [.int .i64 s.1, .sl (.pair (.int .i64) (.pair (.int .i64) (.int .i64))) s.2]), (3, .box 24 [.int .i64 t.1, .sl (.pair (.int .i64) (.pair (.int .i64) (.int .i64))) t.2]), (4, .box 24 [.int .i64 0, .cv (.slice none 0 0)])] ?_
 refine zS 2 [(2, .bp 2 0), (3, .bp 3 0), (4, .bp 4 0), (10, .bool (!v0))] [(2, .box 24 [.int .i64 s.1, .sl (.pair (.int .i64) (.pair (.int .i64) (.int .i64))) s.2]), (3, .box 24 [.int .i64 t.1, .sl (.pair (.int .i64) (.pair (.int .i64) (.int .i64))) t.2]), (4, .box 24 [.int .i64 0, .cv (.slice none 0 0)])] ?_
 rcases zI h with ⟨hb2, h⟩ | ⟨hb2, h⟩
 ·refine zB [(2, .bp 2 0), (3, .bp 3 0), (4, .bp 4 0), (14, .bool true)] [(2, .box 24 [.int .i64 s.1, .sl (.pair (.int .i64) (.pair (.int .i64) (.int .i64))) s.2]), (3, .box 24 [.int .i64 t.1, .sl (.pair (.int .i64) (.pair (.int .i64) (.int .i64))) t.2]), (4, .box 24 [.int .i64 0, .cv (.slice none 0 0)])] ?_
  refine AW.cond (b := true) rfl (fun _ => ?_) (fun hb3 => by cases hb3)
  refine zo ?_
  refine zB [(4, .bp 4 0), (5, .int .i64 50)] [(4, .box 24 [.int .i64 0, .cv (.slice none 0 0)])] ?_
  refine zr ?_
  obtain rfl := Option.some.inj h
  exact zR [] [2000] []
 ·refine zS 1 [(2, .bp 2 0), (3, .bp 3 0), (4, .bp 4 0), (10, .bool false), (11, .agg [.int .i64 t.1, .sl (.pair (.int .i64) (.pair (.int .i64) (.int .i64))) t.2])] [(2, .box 24 [.int .i64 s.1, .sl (.pair (.int .i64) (.pair (.int .i64) (.int .i64))) s.2]), (3, .box 24 [.int .i64 t.1, .sl (.pair (.int .i64) (.pair (.int .i64) (.int .i64))) t.2]), (4, .box 24 [.int .i64 0, .cv (.slice none 0 0)])] ?_
  obtain ⟨v0_2, hv4, h⟩ := Option.bind_eq_some_iff.1 h
  refine zG [] [] (hc_refine_Valid t hv4) [(2, .bp 2 0), (3, .bp 3 0), (4, .bp 4 0), (10, .bool false), (12, .bool v0_2)] [(2, .box 24 [.int .i64 s.1, .sl (.pair (.int .i64) (.pair (.int .i64) (.int .i64))) s.2]), (3, .box 24 [.int .i64 t.1, .sl (.pair (.int .i64) (.pair (.int .i64) (.int .i64))) t.2]), (4, .box 24 [.int .i64 0, .cv (.slice none 0 0)])] ?_
  refine zB [(2, .bp 2 0), (3, .bp 3 0), (4, .bp 4 0), (14, .bool (!v0_2))] [(2, .box 24 [.int .i64 s.1, .sl (.pair (.int .i64) (.pair (.int .i64) (.int .i64))) s.2]), (3, .box 24 [.int .i64 t.1, .sl (.pair (.int .i64) (.pair (.int .i64) (.int .i64))) t.2]), (4, .box 24 [.int .i64 0, .cv (.slice none 0 0)])] ?_
  refine zQ h (fun hb5 h => ?_) (fun hb5 h => ?_)
  ·refine zo ?_
   refine zB [(4, .bp 4 0), (5, .int .i64 50)] [(4, .box 24 [.int .i64 0, .cv (.slice none 0 0)])] ?_
   refine zr ?_
   obtain rfl := Option.some.inj h
   exact zR [] [2000] []
  ·refine zk ?_
   refine AW.seq ?_
   refine AW.draw tab_ok mixed_ok [(7, [33000]), (9, [6]), (10, [6])] [(0, [2]), (1, [2]), (2, [3]), (3, [3]), (4, []), (5, [2]), (6, [3]), (7, [33000]), (8, [33000]), (9, [6]), (100010, [])] (by decide) (lex_fast (by kernel_rfl)) ?_
   as_aux_lemma =>
    obtain ⟨c7, h⟩ := ck_some.1 h
    refine adops_cut 6 (fun K' hK6 => ?_)
    try dsimp only [List.drop_succ_cons, List.drop_zero, List.take_succ_cons, List.take_zero]
    simp only [go_sem, hb2, hb5]
    repeat with_reducible refine zN ?_
    refine hK6 _ ?_
    as_aux_lemma =>
     refine adops_cut 1 (fun K' hK8 => ?_)
     try dsimp only [List.drop_succ_cons, List.drop_zero, List.take_succ_cons, List.take_zero]
     simp only [go_sem, hb2, hb5]
     repeat with_reducible refine zN ?_
     refine hK8 _ ?_
     as_aux_lemma =>
      obtain ⟨v0_3, hv9, h⟩ := Option.bind_eq_some_iff.1 h
      refine adops.call (by first | trivial | rfl) rfl rfl rfl (fun _ h => h) [] [] (hc_refine_together s t hv9) rfl (by (simp only [go_sem, hb2, hb5]) <;> (with_reducible and_intros) <;> first | assumption | rfl | omega | (unfold maxLen; omega)) (by (simp only [go_sem, hb2, hb5]) <;> (with_reducible and_intros) <;> first | assumption | rfl | omega | (unfold maxLen; omega)) rfl ?_
      refine adops_cut 3 (fun K' hK10 => ?_)
      try dsimp only [List.drop_succ_cons, List.drop_zero, List.take_succ_cons, List.take_zero]
      simp only [go_sem, hb2, hb5]
      repeat with_reducible refine zN ?_
      refine hK10 _ ?_
      refine adops_nil ?_
      refine athen_n ?_
      refine zV [(4, .bp 4 0), (6, .bp 6 0)] [(4, .box 24 [.int .i64 0, .cv (.slice none 0 0)]), (6, .box 24 [.int .i64 (s.1 * t.1), .own 33000]), (33000, .arr 66 (.pair (.int .i64) (.pair (.int .i64) (.int .i64))) v0_3)] gt ?_
      as_aux_lemma =>
       refine AW.seq ?_
       refine zo ?_
       refine zS 4 [(4, .bp 4 0), (6, .bp 6 0), (28, .bool (decide (6 < (s.1 * t.1))))] [(4, .box 24 [.int .i64 0, .cv (.slice none 0 0)]), (6, .box 24 [.int .i64 (s.1 * t.1), .own 33000]), (33000, .arr 66 (.pair (.int .i64) (.pair (.int .i64) (.int .i64))) v0_3)] ?_
       rcases zI h with ⟨hb11, h⟩ | ⟨hb11, h⟩
       ·refine zS 4 [(4, .bp 4 0), (6, .bp 6 0), (28, .bool true), (32, .cv (undef))] [(4, .box 24 [.int .i64 0, .cv (.slice none 0 0)]), (6, .box 24 [.int .i64 (s.1 * t.1), .own 33000]), (33000, .arr 66 (.pair (.int .i64) (.pair (.int .i64) (.int .i64))) v0_3)] ?_
        refine zB [(4, .bp 4 0), (6, .bp 6 0), (33, .bool true)] [(4, .box 24 [.int .i64 0, .cv (.slice none 0 0)]), (6, .box 24 [.int .i64 (s.1 * t.1), .own 33000]), (33000, .arr 66 (.pair (.int .i64) (.pair (.int .i64) (.int .i64))) v0_3)] ?_
        refine AW.cond (b := true) rfl (fun _ => ?_) (fun hb12 => by cases hb12)
        refine zo ?_
        refine zB [(4, .bp 4 0), (5, .int .i64 4)] [(4, .box 24 [.int .i64 0, .cv (.slice none 0 0)])] ?_
        refine zr ?_
        obtain rfl := Option.some.inj h
        exact zR [] [2000] []
       ·refine zB [(4, .bp 4 0), (6, .bp 6 0), (33, .bool (decide (24 < (v0_3.length : Int))))] [(4, .box 24 [.int .i64 0, .cv (.slice none 0 0)]), (6, .box 24 [.int .i64 (s.1 * t.1), .own 33000]), (33000, .arr 66 (.pair (.int .i64) (.pair (.int .i64) (.int .i64))) v0_3)] ?_
        refine zQ h (fun hb13 h => ?_) (fun hb13 h => ?_)
        ·refine zo ?_
         refine zB [(4, .bp 4 0), (5, .int .i64 4)] [(4, .box 24 [.int .i64 0, .cv (.slice none 0 0)])] ?_
         refine zr ?_
         obtain rfl := Option.some.inj h
         exact zR [] [2000] []
        ·refine zk ?_
         refine zo ?_
         refine zB [(4, .bp 4 0), (5, .int .i64 0)] [(4, .box 24 [.int .i64 (s.1 * t.1), .own 33000]), (33000, .arr 66 (.pair (.int .i64) (.pair (.int .i64) (.int .i64))) v0_3)] ?_
         refine AW.ret ?_
         obtain rfl := Option.some.inj h
         exact zR [] [] [(2000, 33000)]

theorem hc_linealref05_has (s : Int × (List (Int × Int × Int))) (from0 : Int) (label : Int) (to0 : Int) {r : Bool} (h : linealref05_has s from0 label to0 = some r) : HC Try.prog 100 [] [.agg [.int .i64 s.1, .sl (.pair (.int .i64) (.pair (.int .i64) (.int .i64))) s.2], .int .i64 from0, .int .i64 label, .int .i64 to0] [] (.bool r) := by
 unfold linealref05_has at h
 refine zH Try.func100 [.tmp 8] 35 ?_
 refine zo ?_
 refine zB [(1, .int .i64 from0), (2, .int .i64 label), (3, .int .i64 to0), (4, .bp 4 0)] [(4, .box 24 [.int .i64 s.1, .sl (.pair (.int .i64) (.pair (.int .i64) (.int .i64))) s.2])] ?_
 refine AW.have1 (fun _ : Unit => linealref05_has_k1 = some r) (fun _ => ⟨fr [], hpGet [], gt⟩) (fun _ h => ?_) (fun hk_linealref05_has_k1 => ?_)
 ·as_aux_lemma =>
   unfold linealref05_has_k1 at h
   refine zo ?_
   refine zB [(8, .bool false)] [] ?_
   refine AW.ret ?_
   obtain rfl := Option.some.inj h
   exact zR [] [] []
 ·refine AW.seq ?_
  refine zo ?_
  refine zB [(1, .int .i64 from0), (2, .int .i64 label), (3, .int .i64 to0), (12, .sl (.pair (.int .i64) (.pair (.int .i64) (.int .i64))) s.2), (13, .int .i64 (s.2.length : Int)), (14, .int .i64 0)] [] ?_
  refine AW.block ?_
  obtain ⟨rv5, hw1, ho2⟩ := Option.bind_eq_some_iff.1 h
  refine AW.loopO (linealref05_has_b1 s from0 label to0) (fun st1 => ⟨fr [(1, .int .i64 from0), (2, .int .i64 label), (3, .int .i64 to0), (12, .sl (.pair (.int .i64) (.pair (.int .i64) (.int .i64))) s.2), (13, .int .i64 (s.2.length : Int)), (14, .int .i64 st1)], hpGet [], gt⟩) 0 hw1 (zL [] [] []) ?_
  as_aux_lemma =>
   intro st1 x4 h hd3
   unfold linealref05_has_b1 at h
   refine zo ?_
   refine zB [(1, .int .i64 from0), (2, .int .i64 label), (3, .int .i64 to0), (12, .sl (.pair (.int .i64) (.pair (.int .i64) (.int .i64))) s.2), (13, .int .i64 (s.2.length : Int)), (14, .int .i64 st1), (15, .bool (decide (st1 < (s.2.length : Int))))] [] ?_
   refine AW.seq ?_
   refine zQ h (fun hb6 h => ?_) (fun hb6 h => ?_)
   ·refine zk ?_
    refine AW.seq ?_
    refine AW.block ?_
    refine zo ?_
    obtain ⟨c7, h⟩ := ck_some.1 h
    obtain ⟨c8, h⟩ := ck_some.1 h
    refine zB [(1, .int .i64 from0), (2, .int .i64 label), (3, .int .i64 to0), (10, .bp 10 0), (12, .sl (.pair (.int .i64) (.pair (.int .i64) (.int .i64))) s.2), (13, .int .i64 (s.2.length : Int)), (14, .int .i64 st1)] [(10, .box 66 [.int .i64 (s.2.getD st1.toNat (0, 0, 0)).1, .int .i64 (s.2.getD st1.toNat (0, 0, 0)).2.1, .int .i64 (s.2.getD st1.toNat (0, 0, 0)).2.2])] ?_
    refine zo ?_
    refine zS 5 [(1, .int .i64 from0), (2, .int .i64 label), (3, .int .i64 to0), (10, .bp 10 0), (12, .sl (.pair (.int .i64) (.pair (.int .i64) (.int .i64))) s.2), (13, .int .i64 (s.2.length : Int)), (14, .int .i64 st1), (22, .bool (decide ((s.2.getD st1.toNat (0, 0, 0)).1 = from0)))] [(10, .box 66 [.int .i64 (s.2.getD st1.toNat (0, 0, 0)).1, .int .i64 (s.2.getD st1.toNat (0, 0, 0)).2.1, .int .i64 (s.2.getD st1.toNat (0, 0, 0)).2.2])] ?_
    rcases zI h with ⟨hb9, h⟩ | ⟨hb9, h⟩
    ·refine zS 5 [(1, .int .i64 from0), (2, .int .i64 label), (3, .int .i64 to0), (10, .bp 10 0), (12, .sl (.pair (.int .i64) (.pair (.int .i64) (.int .i64))) s.2), (13, .int .i64 (s.2.length : Int)), (14, .int .i64 st1), (27, .bool (decide ((s.2.getD st1.toNat (0, 0, 0)).2.1 = label)))] [(10, .box 66 [.int .i64 (s.2.getD st1.toNat (0, 0, 0)).1, .int .i64 (s.2.getD st1.toNat (0, 0, 0)).2.1, .int .i64 (s.2.getD st1.toNat (0, 0, 0)).2.2])] ?_
     refine zS 1 [(1, .int .i64 from0), (2, .int .i64 label), (3, .int .i64 to0), (10, .bp 10 0), (12, .sl (.pair (.int .i64) (.pair (.int .i64) (.int .i64))) s.2), (13, .int .i64 (s.2.length : Int)), (14, .int .i64 st1), (28, .bool (decide ((s.2.getD st1.toNat (0, 0, 0)).2.1 = label)))] [(10, .box 66 [.int .i64 (s.2.getD st1.toNat (0, 0, 0)).1, .int .i64 (s.2.getD st1.toNat (0, 0, 0)).2.1, .int .i64 (s.2.getD st1.toNat (0, 0, 0)).2.2])] ?_
     rcases zI h with ⟨hb10, h⟩ | ⟨hb10, h⟩
     ·refine zB [(1, .int .i64 from0), (2, .int .i64 label), (3, .int .i64 to0), (12, .sl (.pair (.int .i64) (.pair (.int .i64) (.int .i64))) s.2), (13, .int .i64 (s.2.length : Int)), (14, .int .i64 st1), (33, .bool (decide ((s.2.getD st1.toNat (0, 0, 0)).2.2 = to0)))] [] ?_
      refine zQ h (fun hb11 h => ?_) (fun hb11 h => ?_)
      ·refine zo ?_
       refine zB [(8, .bool true)] [] ?_
       refine AW.ret ?_
       refine ablock_r ?_
       refine athen_r ?_
       obtain rfl := Option.some.inj h
       rw [← hd3 _ rfl] at ho2
       have h := ho2
       try simp only at h
       refine athen_r ?_
       refine ablock_r ?_
       refine athen_r ?_
       obtain rfl := Option.some.inj h
       exact zR [] [] []
      ·refine zm ?_
       refine athen_n ?_
       refine AW.ops ?_
       obtain ⟨c12, h⟩ := ck_some.1 h
       refine zA [(1, .int .i64 from0), (2, .int .i64 label), (3, .int .i64 to0), (12, .sl (.pair (.int .i64) (.pair (.int .i64) (.int .i64))) s.2), (13, .int .i64 (s.2.length : Int)), (14, .int .i64 (st1 + 1))] [] ?_
       obtain rfl := Option.some.inj h
       exact ⟨_, rfl, zL [] [] []⟩
     ·refine zS 4 [(1, .int .i64 from0), (2, .int .i64 label), (3, .int .i64 to0), (12, .sl (.pair (.int .i64) (.pair (.int .i64) (.int .i64))) s.2), (13, .int .i64 (s.2.length : Int)), (14, .int .i64 st1), (28, .bool false), (32, .cv (undef))] [] ?_
      refine zB [(1, .int .i64 from0), (2, .int .i64 label), (3, .int .i64 to0), (12, .sl (.pair (.int .i64) (.pair (.int .i64) (.int .i64))) s.2), (13, .int .i64 (s.2.length : Int)), (14, .int .i64 st1), (33, .bool false)] [] ?_
      refine AW.cond (b := false) rfl (fun hb13 => by cases hb13) (fun _ => ?_)
      refine zm ?_
      refine athen_n ?_
      refine AW.ops ?_
      obtain ⟨c14, h⟩ := ck_some.1 h
      refine zA [(1, .int .i64 from0), (2, .int .i64 label), (3, .int .i64 to0), (12, .sl (.pair (.int .i64) (.pair (.int .i64) (.int .i64))) s.2), (13, .int .i64 (s.2.length : Int)), (14, .int .i64 (st1 + 1))] [] ?_
      obtain rfl := Option.some.inj h
      exact ⟨_, rfl, zL [] [] []⟩
    ·refine zS 4 [(1, .int .i64 from0), (2, .int .i64 label), (3, .int .i64 to0), (10, .bp 10 0), (12, .sl (.pair (.int .i64) (.pair (.int .i64) (.int .i64))) s.2), (13, .int .i64 (s.2.length : Int)), (14, .int .i64 st1), (22, .bool false), (26, .cv (undef))] [(10, .box 66 [.int .i64 (s.2.getD st1.toNat (0, 0, 0)).1, .int .i64 (s.2.getD st1.toNat (0, 0, 0)).2.1, .int .i64 (s.2.getD st1.toNat (0, 0, 0)).2.2])] ?_
     refine zS 5 [(1, .int .i64 from0), (2, .int .i64 label), (3, .int .i64 to0), (12, .sl (.pair (.int .i64) (.pair (.int .i64) (.int .i64))) s.2), (13, .int .i64 (s.2.length : Int)), (14, .int .i64 st1), (28, .bool false), (30, .cv (undef)), (31, .cv (undef))] [] ?_
     refine zB [(1, .int .i64 from0), (2, .int .i64 label), (3, .int .i64 to0), (12, .sl (.pair (.int .i64) (.pair (.int .i64) (.int .i64))) s.2), (13, .int .i64 (s.2.length : Int)), (14, .int .i64 st1), (33, .bool false)] [] ?_
     refine AW.cond (b := false) rfl (fun hb15 => by cases hb15) (fun _ => ?_)
     refine zm ?_
     refine athen_n ?_
     refine AW.ops ?_
     obtain ⟨c16, h⟩ := ck_some.1 h
     refine zA [(1, .int .i64 from0), (2, .int .i64 label), (3, .int .i64 to0), (12, .sl (.pair (.int .i64) (.pair (.int .i64) (.int .i64))) s.2), (13, .int .i64 (s.2.length : Int)), (14, .int .i64 (st1 + 1))] [] ?_
     obtain rfl := Option.some.inj h
     exact ⟨_, rfl, zL [] [] []⟩
   ·refine AW.exit ?_
    refine athen_e ?_
    obtain rfl := Option.some.inj h
    rw [← hd3 _ rfl] at ho2
    have h := ho2
    try simp only at h
    refine athen_e ?_
    refine ablock_s ?_
    refine athen_n ?_
    exact AW.weaken (zL [] [] []) (hk_linealref05_has_k1 () h)

end Go.Proofs.Ytifleoceebaooaa
