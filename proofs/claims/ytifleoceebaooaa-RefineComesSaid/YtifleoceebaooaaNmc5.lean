/-
  Made by wip/tool/dc.py out of the print of the program: contracts.
-/
import Derived.Test.YtifleoceebaooaaRfp
import Derived.Test.YtifleoceebaooaaShr
import Derived.Test.YtifleoceebaooaaAvd
import Derived.Test.YtifleoceebaooaaNmc1
import Derived.Test.YtifleoceebaooaaNmc2
import Derived.Test.YtifleoceebaooaaNmc4
namespace Go.Proofs.Ytifleoceebaooaa
open Go.RowKit

set_option linter.unusedSimpArgs false
set_option linter.unusedVariables false
set_option linter.constructorNameAsVariable false

set_option maxRecDepth 100000
set_option maxHeartbeats 2000000

theorem hc_linealref05_comes (s : Int × (List (Int × Int × Int))) (set0 : Int) (label : Int) {r : Int} (h : linealref05_comes s set0 label = some r) : HC Try.prog 64 [] [.agg [.int .i64 s.1, .sl (.pair (.int .i64) (.pair (.int .i64) (.int .i64))) s.2], .int .i64 set0, .int .i64 label] [] (.int .i64 r) := by
 unfold linealref05_comes at h
 refine zH Try.func64 [.tmp 6] 20 ?_
 refine zo ?_
 refine zB [(1, .int .i64 set0), (2, .int .i64 label), (3, .bp 3 0)] [(3, .box 24 [.int .i64 s.1, .sl (.pair (.int .i64) (.pair (.int .i64) (.int .i64))) s.2])] ?_
 refine AW.seq ?_
 refine zo ?_
 refine zB [(1, .int .i64 set0), (2, .int .i64 label), (3, .bp 3 0), (8, .bool (decide (label = 0)))] [(3, .box 24 [.int .i64 s.1, .sl (.pair (.int .i64) (.pair (.int .i64) (.int .i64))) s.2])] ?_
 refine zQ h (fun hb1 h => ?_) (fun hb1 h => ?_)
 ·refine zo ?_
  refine zS 2 [(9, .agg [.int .i64 s.1, .sl (.pair (.int .i64) (.pair (.int .i64) (.int .i64))) s.2]), (10, .int .i64 set0)] [] ?_
  obtain ⟨v0, hv2, h⟩ := Option.bind_eq_some_iff.1 h
  refine zC [] [] (hc_linealref05_quiet s set0 hv2) [(11, .int .i64 v0)] [] ?_
  refine zB [(6, .int .i64 v0)] [] ?_
  refine zr ?_
  obtain rfl := Option.some.inj h
  exact zR [] [] []
 ·refine zk ?_
  refine AW.seq ?_
  refine AW.draw tab_ok mixed_ok [] [] (by decide) (lex_fast (by kernel_rfl)) ?_
  as_aux_lemma =>
   refine adops_cut 4 (fun K' hK3 => ?_)
   try dsimp only [List.drop_succ_cons, List.drop_zero, List.take_succ_cons, List.take_zero]
   simp only [go_sem, hb1]
   repeat with_reducible refine zN ?_
   refine hK3 _ ?_
   as_aux_lemma =>
    obtain ⟨v0_2, hv4, h⟩ := Option.bind_eq_some_iff.1 h
    refine adops.call (by first | trivial | rfl) rfl rfl rfl (fun _ h => h) [] [] (hc_linealref05_quiet s set0 hv4) rfl (by (simp only [go_sem, hb1]) <;> (with_reducible and_intros) <;> first | assumption | rfl | omega | (unfold maxLen; omega)) (by (simp only [go_sem, hb1]) <;> (with_reducible and_intros) <;> first | assumption | rfl | omega | (unfold maxLen; omega)) rfl ?_
    refine adops_cut 1 (fun K' hK5 => ?_)
    try dsimp only [List.drop_succ_cons, List.drop_zero, List.take_succ_cons, List.take_zero]
    simp only [go_sem, hb1]
    repeat with_reducible refine zN ?_
    refine hK5 _ ?_
    as_aux_lemma =>
     obtain ⟨v0_3, hv6, h⟩ := Option.bind_eq_some_iff.1 h
     refine adops.call (by first | trivial | rfl) rfl rfl rfl (fun _ h => h) [] [] (hc_linealref05_step s v0_2 label hv6) rfl (by (simp only [go_sem, hb1]) <;> (with_reducible and_intros) <;> first | assumption | rfl | omega | (unfold maxLen; omega)) (by (simp only [go_sem, hb1]) <;> (with_reducible and_intros) <;> first | assumption | rfl | omega | (unfold maxLen; omega)) rfl ?_
     obtain ⟨v0_4, hv7, h⟩ := Option.bind_eq_some_iff.1 h
     refine adops.call (by first | trivial | rfl) rfl rfl rfl (fun _ h => h) [] [] (hc_linealref05_quiet s v0_3 hv7) rfl (by (simp only [go_sem, hb1]) <;> (with_reducible and_intros) <;> first | assumption | rfl | omega | (unfold maxLen; omega)) (by (simp only [go_sem, hb1]) <;> (with_reducible and_intros) <;> first | assumption | rfl | omega | (unfold maxLen; omega)) rfl ?_
     refine adops_cut 1 (fun K' hK8 => ?_)
     try dsimp only [List.drop_succ_cons, List.drop_zero, List.take_succ_cons, List.take_zero]
     simp only [go_sem, hb1]
     repeat with_reducible refine zN ?_
     refine hK8 _ ?_
     refine adops_nil ?_
     refine athen_n ?_
     refine zV [(6, .int .i64 v0_4)] [] gt ?_
     as_aux_lemma =>
      refine AW.ret ?_
      obtain rfl := Option.some.inj h
      exact zR [] [] []

theorem hc_linealref05_list (set0 : Int) {r : (List Int)} (h : linealref05_list set0 = some r) : HC Try.prog 63 [] [.int .i64 set0] [(2000, .arr 3 (.int .i64) r)] (.own 2000) := by
 unfold linealref05_list at h
 refine zH Try.func63 [.tmp 2] 19 ?_
 refine zo ?_
 refine zB [(0, .int .i64 set0)] [] ?_
 refine zo ?_
 refine zB [(0, .int .i64 set0), (3, .cv (.slice none 0 0))] [] ?_
 refine AW.have1 (fun b1 : (List Int) => linealref05_list_k1 b1 = some r) (fun b1 => ⟨fr [(3, .own 16)], hpGet [(16, .arr 3 (.int .i64) b1)], gt⟩) (fun b1 h => ?_) (fun hk_linealref05_list_k1 => ?_)
 ·as_aux_lemma =>
   unfold linealref05_list_k1 at h
   refine zo ?_
   refine zB [(2, .own 16)] [(16, .arr 3 (.int .i64) b1)] ?_
   refine AW.ret ?_
   obtain rfl := Option.some.inj h
   exact zR [] [] [(2000, 16)]
 ·refine AW.seq ?_
  refine zo ?_
  refine zB [(0, .int .i64 set0), (3, .cv (.slice none 0 0)), (5, .int .i64 0)] [] ?_
  refine AW.block ?_
  obtain ⟨rv5, hw1, ho2⟩ := Option.bind_eq_some_iff.1 h
  refine AW.loopO (linealref05_list_b1 set0) (fun st1 => ⟨fr [(0, .int .i64 set0), (3, .own 16), (5, .int .i64 st1.2)], hpGet [(16, .arr 3 (.int .i64) st1.1)], gt⟩) ([], 0) hw1 (zL [] [16] []) ?_
  as_aux_lemma =>
   intro st1 x4 h hd3
   unfold linealref05_list_b1 at h
   refine zo ?_
   refine zB [(0, .int .i64 set0), (3, .own 16), (5, .int .i64 st1.2), (6, .bool (decide (st1.2 < 6)))] [(16, .arr 3 (.int .i64) st1.1)] ?_
   refine AW.seq ?_
   refine zQ h (fun hb6 h => ?_) (fun hb6 h => ?_)
   ·refine zk ?_
    refine AW.seq ?_
    refine AW.block ?_
    refine zo ?_
    refine zB [(0, .int .i64 set0), (3, .own 16), (4, .int .i64 st1.2), (5, .int .i64 st1.2)] [(16, .arr 3 (.int .i64) st1.1)] ?_
    refine zo ?_
    obtain ⟨c7, h⟩ := ck_some.1 h
    refine zB [(0, .int .i64 set0), (3, .own 16), (4, .int .i64 st1.2), (5, .int .i64 st1.2), (12, .bool (decide ((iand .i64 (ishr .i64 set0 st1.2) 1) = 1)))] [(16, .arr 3 (.int .i64) st1.1)] ?_
    refine zQ h (fun hb8 h => ?_) (fun hb8 h => ?_)
    ·refine AW.ops ?_
     obtain ⟨c9, h⟩ := ck_some.1 h
     refine zA [(0, .int .i64 set0), (3, .own 16), (5, .int .i64 st1.2)] [(16, .arr 3 (.int .i64) (st1.1 ++ [st1.2]))] ?_
     refine ablock_n ?_
     refine athen_n ?_
     refine AW.ops ?_
     obtain ⟨c10, h⟩ := ck_some.1 h
     refine zA [(0, .int .i64 set0), (3, .own 16), (5, .int .i64 (st1.2 + 1))] [(16, .arr 3 (.int .i64) (st1.1 ++ [st1.2]))] ?_
     obtain rfl := Option.some.inj h
     exact ⟨_, rfl, zL [] [] []⟩
    ·refine zm ?_
     refine athen_n ?_
     refine AW.ops ?_
     obtain ⟨c11, h⟩ := ck_some.1 h
     refine zA [(0, .int .i64 set0), (3, .own 16), (5, .int .i64 (st1.2 + 1))] [(16, .arr 3 (.int .i64) st1.1)] ?_
     obtain rfl := Option.some.inj h
     exact ⟨_, rfl, zL [] [] []⟩
   ·refine AW.exit ?_
    refine athen_e ?_
    obtain rfl := Option.some.inj h
    rw [← hd3 _ rfl] at ho2
    have h := ho2
    refine athen_e ?_
    refine ablock_s ?_
    refine athen_n ?_
    exact AW.weaken (zL [] [] []) (hk_linealref05_list_k1 _ h)

theorem hc_refine_Comes (s : Int × (List (Int × Int × Int))) (state : Int) (label : Int) {r : (List Int) × Int} (h : refine_Comes s state label = some r) : HC Try.prog 18 [] [.agg [.int .i64 s.1, .sl (.pair (.int .i64) (.pair (.int .i64) (.int .i64))) s.2], .int .i64 state, .int .i64 label] [(2000, .arr 3 (.int .i64) r.1)] (.tup [.own 2000, .int .i64 r.2]) := by
 unfold refine_Comes at h
 refine zH Try.func18 [.tmp 6, .tmp 7] 34 ?_
 refine zo ?_
 refine zB [(1, .int .i64 state), (2, .int .i64 label), (3, .bp 3 0)] [(3, .box 24 [.int .i64 s.1, .sl (.pair (.int .i64) (.pair (.int .i64) (.int .i64))) s.2])] ?_
 refine zo ?_
 refine zS 1 [(1, .int .i64 state), (2, .int .i64 label), (3, .bp 3 0), (11, .agg [.int .i64 s.1, .sl (.pair (.int .i64) (.pair (.int .i64) (.int .i64))) s.2])] [(3, .box 24 [.int .i64 s.1, .sl (.pair (.int .i64) (.pair (.int .i64) (.int .i64))) s.2])] ?_
 obtain ⟨v0, hv1, h⟩ := Option.bind_eq_some_iff.1 h
 refine zC [] [] (hc_refine_frameOf s hv1) [(1, .int .i64 state), (2, .int .i64 label), (3, .bp 3 0), (12, .tup [.agg (.int .i64 v0.1 :: (.sl (.pair (.int .i64) (.pair (.int .i64) (.int .i64))) v0.2.1 :: (cellsX T69 v0.2.2.1))), .int .i64 v0.2.2.2])] [(3, .box 24 [.int .i64 s.1, .sl (.pair (.int .i64) (.pair (.int .i64) (.int .i64))) s.2])] ?_
 refine zS 5 [(1, .int .i64 state), (2, .int .i64 label), (3, .bp 3 0), (8, .bp 8 0), (14, .int .i64 v0.2.2.2)] [(3, .box 24 [.int .i64 s.1, .sl (.pair (.int .i64) (.pair (.int .i64) (.int .i64))) s.2]), (8, .box 71 (.int .i64 v0.1 :: (.sl (.pair (.int .i64) (.pair (.int .i64) (.int .i64))) v0.2.1 :: (cellsX T69 v0.2.2.1))))] ?_
 refine zB [(1, .int .i64 state), (2, .int .i64 label), (3, .bp 3 0), (8, .bp 8 0), (9, .int .i64 v0.2.2.2)] [(3, .box 24 [.int .i64 s.1, .sl (.pair (.int .i64) (.pair (.int .i64) (.int .i64))) s.2]), (8, .box 71 (.int .i64 v0.1 :: (.sl (.pair (.int .i64) (.pair (.int .i64) (.int .i64))) v0.2.1 :: (cellsX T69 v0.2.2.1))))] ?_
 refine AW.seq ?_
 refine zo ?_
 refine zB [(1, .int .i64 state), (2, .int .i64 label), (3, .bp 3 0), (8, .bp 8 0), (9, .int .i64 v0.2.2.2), (16, .bool (!(decide (v0.2.2.2 = 0))))] [(3, .box 24 [.int .i64 s.1, .sl (.pair (.int .i64) (.pair (.int .i64) (.int .i64))) s.2]), (8, .box 71 (.int .i64 v0.1 :: (.sl (.pair (.int .i64) (.pair (.int .i64) (.int .i64))) v0.2.1 :: (cellsX T69 v0.2.2.1))))] ?_
 refine zQ h (fun hb2 h => ?_) (fun hb2 h => ?_)
 ·refine zo ?_
  refine zB [(6, .cv (.slice none 0 0)), (7, .int .i64 v0.2.2.2)] [] ?_
  refine zr ?_
  obtain rfl := Option.some.inj h
  exact zR [] [2000] []
 ·refine zk ?_
  refine AW.seq ?_
  refine zo ?_
  refine zS 2 [(1, .int .i64 state), (2, .int .i64 label), (8, .bp 8 0), (18, .agg [.int .i64 s.1, .sl (.pair (.int .i64) (.pair (.int .i64) (.int .i64))) s.2]), (19, .int .i64 state)] [(8, .box 71 (.int .i64 v0.1 :: (.sl (.pair (.int .i64) (.pair (.int .i64) (.int .i64))) v0.2.1 :: (cellsX T69 v0.2.2.1))))] ?_
  obtain ⟨v0_2, hv3, h⟩ := Option.bind_eq_some_iff.1 h
  refine zC [] [] (hc_refine_isState s state hv3) [(1, .int .i64 state), (2, .int .i64 label), (8, .bp 8 0), (20, .bool v0_2)] [(8, .box 71 (.int .i64 v0.1 :: (.sl (.pair (.int .i64) (.pair (.int .i64) (.int .i64))) v0.2.1 :: (cellsX T69 v0.2.2.1))))] ?_
  refine zS 2 [(1, .int .i64 state), (2, .int .i64 label), (8, .bp 8 0), (22, .bool (!v0_2))] [(8, .box 71 (.int .i64 v0.1 :: (.sl (.pair (.int .i64) (.pair (.int .i64) (.int .i64))) v0.2.1 :: (cellsX T69 v0.2.2.1))))] ?_
  rcases zI h with ⟨hb4, h⟩ | ⟨hb4, h⟩
  ·refine zB [(1, .int .i64 state), (2, .int .i64 label), (8, .bp 8 0), (26, .bool true)] [(8, .box 71 (.int .i64 v0.1 :: (.sl (.pair (.int .i64) (.pair (.int .i64) (.int .i64))) v0.2.1 :: (cellsX T69 v0.2.2.1))))] ?_
   refine AW.cond (b := true) rfl (fun _ => ?_) (fun hb5 => by cases hb5)
   refine zo ?_
   refine zB [(6, .cv (.slice none 0 0)), (7, .int .i64 2)] [] ?_
   refine zr ?_
   obtain rfl := Option.some.inj h
   exact zR [] [2000] []
  ·refine zS 1 [(1, .int .i64 state), (2, .int .i64 label), (8, .bp 8 0), (22, .bool false), (23, .int .i64 label)] [(8, .box 71 (.int .i64 v0.1 :: (.sl (.pair (.int .i64) (.pair (.int .i64) (.int .i64))) v0.2.1 :: (cellsX T69 v0.2.2.1))))] ?_
   obtain ⟨v0_3, hv6, h⟩ := Option.bind_eq_some_iff.1 h
   refine zG [] [] (hc_refine_isLabel label hv6) [(1, .int .i64 state), (2, .int .i64 label), (8, .bp 8 0), (22, .bool false), (24, .bool v0_3)] [(8, .box 71 (.int .i64 v0.1 :: (.sl (.pair (.int .i64) (.pair (.int .i64) (.int .i64))) v0.2.1 :: (cellsX T69 v0.2.2.1))))] ?_
   refine zB [(1, .int .i64 state), (2, .int .i64 label), (8, .bp 8 0), (26, .bool (!v0_3))] [(8, .box 71 (.int .i64 v0.1 :: (.sl (.pair (.int .i64) (.pair (.int .i64) (.int .i64))) v0.2.1 :: (cellsX T69 v0.2.2.1))))] ?_
   refine zQ h (fun hb7 h => ?_) (fun hb7 h => ?_)
   ·refine zo ?_
    refine zB [(6, .cv (.slice none 0 0)), (7, .int .i64 2)] [] ?_
    refine zr ?_
    obtain rfl := Option.some.inj h
    exact zR [] [2000] []
   ·refine zk ?_
    refine zo ?_
    obtain ⟨c8, h⟩ := ck_some.1 h
    obtain ⟨c9, h⟩ := ck_some.1 h
    obtain ⟨c10, h⟩ := ck_some.1 h
    obtain ⟨c11, h⟩ := ck_some.1 h
    refine zS 5 [(31, .bp 8 ((2 + state.toNat * 4) + label.toNat * 1))] [(8, .box 71 (.int .i64 v0.1 :: (.sl (.pair (.int .i64) (.pair (.int .i64) (.int .i64))) v0.2.1 :: (cellsX T69 v0.2.2.1))))] ?_
    have hx12 : ((state.toNat * 4) + label.toNat * 1) < 24 := by omega
    refine zS 1 [(32, .int .u8 (intAt T69 v0.2.2.1 ((state.toNat * 4) + label.toNat * 1)))] [] ?_
    obtain ⟨v0_4, hv13, h⟩ := Option.bind_eq_some_iff.1 h
    refine zC [] [] (hc_refine_set_states (intAt T69 v0.2.2.1 ((state.toNat * 4) + label.toNat * 1)) hv13) [(33, .own 43000)] [(43000, .arr 3 (.int .i64) v0_4)] ?_
    refine zB [(6, .own 43000), (7, .int .i64 0)] [(43000, .arr 3 (.int .i64) v0_4)] ?_
    refine AW.ret ?_
    obtain rfl := Option.some.inj h
    exact zR [] [] [(2000, 43000)]

theorem hc_linealref05_Comes (s : Int × (List (Int × Int × Int))) (state : Int) (label : Int) {r : (List Int) × Int} (h : linealref05_Comes s state label = some r) : HC Try.prog 19 [] [.agg [.int .i64 s.1, .sl (.pair (.int .i64) (.pair (.int .i64) (.int .i64))) s.2], .int .i64 state, .int .i64 label] [(2000, .arr 3 (.int .i64) r.1)] (.tup [.own 2000, .int .i64 r.2]) := by
 unfold linealref05_Comes at h
 refine zH Try.func19 [.tmp 6, .tmp 7] 29 ?_
 refine zo ?_
 refine zB [(1, .int .i64 state), (2, .int .i64 label), (3, .bp 3 0)] [(3, .box 24 [.int .i64 s.1, .sl (.pair (.int .i64) (.pair (.int .i64) (.int .i64))) s.2])] ?_
 refine AW.seq ?_
 refine zo ?_
 refine zS 1 [(1, .int .i64 state), (2, .int .i64 label), (3, .bp 3 0), (8, .agg [.int .i64 s.1, .sl (.pair (.int .i64) (.pair (.int .i64) (.int .i64))) s.2])] [(3, .box 24 [.int .i64 s.1, .sl (.pair (.int .i64) (.pair (.int .i64) (.int .i64))) s.2])] ?_
 obtain ⟨v0, hv1, h⟩ := Option.bind_eq_some_iff.1 h
 refine zC [] [] (hc_linealref05_Valid s hv1) [(1, .int .i64 state), (2, .int .i64 label), (3, .bp 3 0), (9, .bool v0)] [(3, .box 24 [.int .i64 s.1, .sl (.pair (.int .i64) (.pair (.int .i64) (.int .i64))) s.2])] ?_
 refine zB [(1, .int .i64 state), (2, .int .i64 label), (3, .bp 3 0), (10, .bool (!v0))] [(3, .box 24 [.int .i64 s.1, .sl (.pair (.int .i64) (.pair (.int .i64) (.int .i64))) s.2])] ?_
 refine zQ h (fun hb2 h => ?_) (fun hb2 h => ?_)
 ·refine zo ?_
  refine zB [(6, .cv (.slice none 0 0)), (7, .int .i64 50)] [] ?_
  refine zr ?_
  obtain rfl := Option.some.inj h
  exact zR [] [2000] []
 ·refine zk ?_
  refine AW.seq ?_
  refine zo ?_
  refine zS 2 [(1, .int .i64 state), (2, .int .i64 label), (3, .bp 3 0), (11, .agg [.int .i64 s.1, .sl (.pair (.int .i64) (.pair (.int .i64) (.int .i64))) s.2]), (12, .int .i64 state)] [(3, .box 24 [.int .i64 s.1, .sl (.pair (.int .i64) (.pair (.int .i64) (.int .i64))) s.2])] ?_
  obtain ⟨v0_2, hv3, h⟩ := Option.bind_eq_some_iff.1 h
  refine zC [] [] (hc_linealref05_IsState s state hv3) [(1, .int .i64 state), (2, .int .i64 label), (3, .bp 3 0), (13, .bool v0_2)] [(3, .box 24 [.int .i64 s.1, .sl (.pair (.int .i64) (.pair (.int .i64) (.int .i64))) s.2])] ?_
  refine zS 2 [(1, .int .i64 state), (2, .int .i64 label), (3, .bp 3 0), (15, .bool (!v0_2))] [(3, .box 24 [.int .i64 s.1, .sl (.pair (.int .i64) (.pair (.int .i64) (.int .i64))) s.2])] ?_
  rcases zI h with ⟨hb4, h⟩ | ⟨hb4, h⟩
  ·refine zS 5 [(1, .int .i64 state), (2, .int .i64 label), (3, .bp 3 0), (19, .bool true), (20, .cv (undef))] [(3, .box 24 [.int .i64 s.1, .sl (.pair (.int .i64) (.pair (.int .i64) (.int .i64))) s.2])] ?_
   refine zB [(1, .int .i64 state), (2, .int .i64 label), (3, .bp 3 0), (22, .bool true)] [(3, .box 24 [.int .i64 s.1, .sl (.pair (.int .i64) (.pair (.int .i64) (.int .i64))) s.2])] ?_
   refine AW.cond (b := true) rfl (fun _ => ?_) (fun hb5 => by cases hb5)
   refine zo ?_
   refine zB [(6, .cv (.slice none 0 0)), (7, .int .i64 2)] [] ?_
   refine zr ?_
   obtain rfl := Option.some.inj h
   exact zR [] [2000] []
  ·refine zS 4 [(1, .int .i64 state), (2, .int .i64 label), (3, .bp 3 0), (19, .bool (decide (label < 0)))] [(3, .box 24 [.int .i64 s.1, .sl (.pair (.int .i64) (.pair (.int .i64) (.int .i64))) s.2])] ?_
   rcases zI h with ⟨hb6, h⟩ | ⟨hb6, h⟩
   ·refine zB [(1, .int .i64 state), (2, .int .i64 label), (3, .bp 3 0), (22, .bool true)] [(3, .box 24 [.int .i64 s.1, .sl (.pair (.int .i64) (.pair (.int .i64) (.int .i64))) s.2])] ?_
    refine AW.cond (b := true) rfl (fun _ => ?_) (fun hb7 => by cases hb7)
    refine zo ?_
    refine zB [(6, .cv (.slice none 0 0)), (7, .int .i64 2)] [] ?_
    refine zr ?_
    obtain rfl := Option.some.inj h
    exact zR [] [2000] []
   ·refine zB [(1, .int .i64 state), (2, .int .i64 label), (3, .bp 3 0), (22, .bool (decide (3 < label)))] [(3, .box 24 [.int .i64 s.1, .sl (.pair (.int .i64) (.pair (.int .i64) (.int .i64))) s.2])] ?_
    refine zQ h (fun hb8 h => ?_) (fun hb8 h => ?_)
    ·refine zo ?_
     refine zB [(6, .cv (.slice none 0 0)), (7, .int .i64 2)] [] ?_
     refine zr ?_
     obtain rfl := Option.some.inj h
     exact zR [] [2000] []
    ·refine zk ?_
     refine AW.seq ?_
     refine AW.draw tab_ok mixed_ok [(5, [38000])] [] (by decide) (by kernel_rfl) ?_
     as_aux_lemma =>
      obtain ⟨c10, h⟩ := ck_some.1 h
      refine adops_cut 4 (fun K' hK9 => ?_)
      try dsimp only [List.drop_succ_cons, List.drop_zero, List.take_succ_cons, List.take_zero]
      simp only [go_sem, hb2, hb4, hb6, hb8]
      repeat with_reducible refine zN ?_
      refine hK9 _ ?_
      as_aux_lemma =>
       obtain ⟨v0_3, hv11, h⟩ := Option.bind_eq_some_iff.1 h
       refine adops.call (by first | trivial | rfl) rfl rfl rfl (fun _ h => h) [] [] (hc_linealref05_comes s (ishl .i64 1 state) label hv11) rfl (by (simp only [go_sem, hb2, hb4, hb6, hb8]) <;> (with_reducible and_intros) <;> first | assumption | rfl | omega | (unfold maxLen; omega)) (by (simp only [go_sem, hb2, hb4, hb6, hb8]) <;> (with_reducible and_intros) <;> first | assumption | rfl | omega | (unfold maxLen; omega)) rfl ?_
       obtain ⟨v0_4, hv12, h⟩ := Option.bind_eq_some_iff.1 h
       refine adops.call (by first | trivial | rfl) rfl rfl rfl (fun _ h => h) [] [] (hc_linealref05_list v0_3 hv12) rfl (by (simp only [go_sem, hb2, hb4, hb6, hb8]) <;> (with_reducible and_intros) <;> first | assumption | rfl | omega | (unfold maxLen; omega)) (by (simp only [go_sem, hb2, hb4, hb6, hb8]) <;> (with_reducible and_intros) <;> first | assumption | rfl | omega | (unfold maxLen; omega)) rfl ?_
       refine adops_cut 2 (fun K' hK13 => ?_)
       try dsimp only [List.drop_succ_cons, List.drop_zero, List.take_succ_cons, List.take_zero]
       simp only [go_sem, hb2, hb4, hb6, hb8]
       repeat with_reducible refine zN ?_
       refine hK13 _ ?_
       refine adops_nil ?_
       refine athen_n ?_
       refine zV [(6, .own 38000), (7, .int .i64 0)] [(38000, .arr 3 (.int .i64) v0_4)] gt ?_
       as_aux_lemma =>
        refine AW.ret ?_
        obtain rfl := Option.some.inj h
        exact zR [] [] [(2000, 38000)]

theorem hc_refine_frame_led_1_2F (slf : Int → Int → ((Int × (List (Int × Int × Int))) × (El T69)) → Option Int) (hc_slf : ∀ (state : Int) (a1 : Int) (a2 : (Int × (List (Int × Int × Int))) × (El T69)) {r : Int}, slf state a1 a2 = some r → HC Try.prog 126 [(1000, .box 67 [.int .u8 a1]), (1001, .box 71 (.int .i64 a2.1.1 :: (.sl (.pair (.int .i64) (.pair (.int .i64) (.int .i64))) a2.1.2 :: (cellsX T69 a2.2)))), (1002, .box 75 [.fn (.func 60) [] []]), (1003, .box 144 [.fn (.func 126) [] [.bp 1000 0, .bp 1001 0, .bp 1002 0, .bp 1003 0]])] [.int .i64 state, .bp 1000 0, .bp 1001 0, .bp 1002 0, .bp 1003 0] [(1000, .box 67 [.int .u8 r]), (1001, .box 71 (.int .i64 a2.1.1 :: (.sl (.pair (.int .i64) (.pair (.int .i64) (.int .i64))) a2.1.2 :: (cellsX T69 a2.2)))), (1002, .box 75 [.fn (.func 60) [] []]), (1003, .box 144 [.fn (.func 126) [] [.bp 1000 0, .bp 1001 0, .bp 1002 0, .bp 1003 0]])] (.tup [])) (state : Int) (a1 : Int) (a2 : (Int × (List (Int × Int × Int))) × (El T69)) {r : Int} (h : refine_frame_led_1_2F slf state a1 a2 = some r) : HC Try.prog 126 [(1000, .box 67 [.int .u8 a1]), (1001, .box 71 (.int .i64 a2.1.1 :: (.sl (.pair (.int .i64) (.pair (.int .i64) (.int .i64))) a2.1.2 :: (cellsX T69 a2.2)))), (1002, .box 75 [.fn (.func 60) [] []]), (1003, .box 144 [.fn (.func 126) [] [.bp 1000 0, .bp 1001 0, .bp 1002 0, .bp 1003 0]])] [.int .i64 state, .bp 1000 0, .bp 1001 0, .bp 1002 0, .bp 1003 0] [(1000, .box 67 [.int .u8 r]), (1001, .box 71 (.int .i64 a2.1.1 :: (.sl (.pair (.int .i64) (.pair (.int .i64) (.int .i64))) a2.1.2 :: (cellsX T69 a2.2)))), (1002, .box 75 [.fn (.func 60) [] []]), (1003, .box 144 [.fn (.func 126) [] [.bp 1000 0, .bp 1001 0, .bp 1002 0, .bp 1003 0]])] (.tup []) := by
 unfold refine_frame_led_1_2F at h
 refine zH Try.func126 [] 38 ?_
 refine AW.seq ?_
 refine zo ?_
 refine zS 2 [(0, .int .i64 state), (1, .bp 1000 0), (2, .bp 1001 0), (3, .bp 1002 0), (4, .bp 1003 0), (8, .int .u8 a1), (9, .int .i64 state)] [(1000, .box 67 [.int .u8 a1]), (1001, .box 71 (.int .i64 a2.1.1 :: (.sl (.pair (.int .i64) (.pair (.int .i64) (.int .i64))) a2.1.2 :: (cellsX T69 a2.2)))), (1002, .box 75 [.fn (.func 60) [] []]), (1003, .box 144 [.fn (.func 126) [] [.bp 1000 0, .bp 1001 0, .bp 1002 0, .bp 1003 0]])] ?_
 obtain ⟨v0, hv1, h⟩ := Option.bind_eq_some_iff.1 h
 refine zC [] [] (hc_refine_set_has a1 state hv1) [(0, .int .i64 state), (1, .bp 1000 0), (2, .bp 1001 0), (3, .bp 1002 0), (4, .bp 1003 0), (10, .bool (decide ((iand .u8 (ishr .u8 a1 state) 1) = 1)))] [(1000, .box 67 [.int .u8 a1]), (1001, .box 71 (.int .i64 a2.1.1 :: (.sl (.pair (.int .i64) (.pair (.int .i64) (.int .i64))) a2.1.2 :: (cellsX T69 a2.2)))), (1002, .box 75 [.fn (.func 60) [] []]), (1003, .box 144 [.fn (.func 126) [] [.bp 1000 0, .bp 1001 0, .bp 1002 0, .bp 1003 0]])] ?_
 refine zB [(0, .int .i64 state), (1, .bp 1000 0), (2, .bp 1001 0), (3, .bp 1002 0), (4, .bp 1003 0), (10, .bool (decide ((iand .u8 (ishr .u8 a1 state) 1) = 1)))] [(1000, .box 67 [.int .u8 a1]), (1001, .box 71 (.int .i64 a2.1.1 :: (.sl (.pair (.int .i64) (.pair (.int .i64) (.int .i64))) a2.1.2 :: (cellsX T69 a2.2)))), (1002, .box 75 [.fn (.func 60) [] []]), (1003, .box 144 [.fn (.func 126) [] [.bp 1000 0, .bp 1001 0, .bp 1002 0, .bp 1003 0]])] ?_
 refine zQ h (fun hb2 h => ?_) (fun hb2 h => ?_)
 ·refine zr ?_
  obtain rfl := Option.some.inj h
  exact zR [] [] []
 ·refine zk ?_
  refine AW.seq ?_
  refine AW.draw tab_ok mixed_ok [(4, [1000])] [] (by decide) (by kernel_rfl) ?_
  as_aux_lemma =>
   obtain ⟨c4, h⟩ := ck_some.1 h
   refine adops_cut 5 (fun K' hK3 => ?_)
   try dsimp only [List.drop_succ_cons, List.drop_zero, List.take_succ_cons, List.take_zero]
   simp only [go_sem, hb2]
   repeat with_reducible refine zN ?_
   refine hK3 _ ?_
   refine adops_nil ?_
   refine athen_n ?_
   refine zV [(0, .int .i64 state), (2, .bp 1001 0), (3, .bp 1002 0), (4, .bp 1003 0)] [(1000, .box 67 [.int .u8 (ior .u8 a1 (ishl .u8 1 state))]), (1001, .box 71 (.int .i64 a2.1.1 :: (.sl (.pair (.int .i64) (.pair (.int .i64) (.int .i64))) a2.1.2 :: (cellsX T69 a2.2)))), (1002, .box 75 [.fn (.func 60) [] []]), (1003, .box 144 [.fn (.func 126) [] [.bp 1000 0, .bp 1001 0, .bp 1002 0, .bp 1003 0]])] gt ?_
   as_aux_lemma =>
    refine zo ?_
    refine zB [(0, .int .i64 state), (3, .bp 1002 0), (4, .bp 1003 0), (17, .sl (.pair (.int .i64) (.pair (.int .i64) (.int .i64))) a2.1.2), (18, .int .i64 (a2.1.2.length : Int)), (19, .int .i64 0)] [(1000, .box 67 [.int .u8 (ior .u8 a1 (ishl .u8 1 state))]), (1001, .box 71 (.int .i64 a2.1.1 :: (.sl (.pair (.int .i64) (.pair (.int .i64) (.int .i64))) a2.1.2 :: (cellsX T69 a2.2)))), (1002, .box 75 [.fn (.func 60) [] []]), (1003, .box 144 [.fn (.func 126) [] [.bp 1000 0, .bp 1001 0, .bp 1002 0, .bp 1003 0]])] ?_
    refine AW.block ?_
    obtain ⟨rv9, hw5, ho6⟩ := Option.bind_eq_some_iff.1 h
    refine AW.loopO (refine_frame_led_1_2_b1 slf state a2) (fun st1 => ⟨fr [(0, .int .i64 state), (3, .bp 1002 0), (4, .bp 1003 0), (17, .sl (.pair (.int .i64) (.pair (.int .i64) (.int .i64))) a2.1.2), (18, .int .i64 (a2.1.2.length : Int)), (19, .int .i64 st1.2)], hpGet [(1000, .box 67 [.int .u8 st1.1]), (1001, .box 71 (.int .i64 a2.1.1 :: (.sl (.pair (.int .i64) (.pair (.int .i64) (.int .i64))) a2.1.2 :: (cellsX T69 a2.2)))), (1002, .box 75 [.fn (.func 60) [] []]), (1003, .box 144 [.fn (.func 126) [] [.bp 1000 0, .bp 1001 0, .bp 1002 0, .bp 1003 0]])], gt⟩) ((ior .u8 a1 (ishl .u8 1 state)), 0) hw5 (zL [] [] []) ?_
    as_aux_lemma =>
     intro st1 x8 h hd7
     unfold refine_frame_led_1_2_b1 at h
     refine zo ?_
     refine zB [(0, .int .i64 state), (3, .bp 1002 0), (4, .bp 1003 0), (17, .sl (.pair (.int .i64) (.pair (.int .i64) (.int .i64))) a2.1.2), (18, .int .i64 (a2.1.2.length : Int)), (19, .int .i64 st1.2), (20, .bool (decide (st1.2 < (a2.1.2.length : Int))))] [(1000, .box 67 [.int .u8 st1.1]), (1001, .box 71 (.int .i64 a2.1.1 :: (.sl (.pair (.int .i64) (.pair (.int .i64) (.int .i64))) a2.1.2 :: (cellsX T69 a2.2)))), (1002, .box 75 [.fn (.func 60) [] []]), (1003, .box 144 [.fn (.func 126) [] [.bp 1000 0, .bp 1001 0, .bp 1002 0, .bp 1003 0]])] ?_
     refine AW.seq ?_
     refine zQ h (fun hb10 h => ?_) (fun hb10 h => ?_)
     ·refine zk ?_
      refine AW.seq ?_
      refine AW.block ?_
      refine zo ?_
      obtain ⟨c11, h⟩ := ck_some.1 h
      obtain ⟨c12, h⟩ := ck_some.1 h
      refine zB [(0, .int .i64 state), (3, .bp 1002 0), (4, .bp 1003 0), (7, .bp 7 0), (17, .sl (.pair (.int .i64) (.pair (.int .i64) (.int .i64))) a2.1.2), (18, .int .i64 (a2.1.2.length : Int)), (19, .int .i64 st1.2)] [(7, .box 66 [.int .i64 (a2.1.2.getD st1.2.toNat (0, 0, 0)).1, .int .i64 (a2.1.2.getD st1.2.toNat (0, 0, 0)).2.1, .int .i64 (a2.1.2.getD st1.2.toNat (0, 0, 0)).2.2]), (1000, .box 67 [.int .u8 st1.1]), (1001, .box 71 (.int .i64 a2.1.1 :: (.sl (.pair (.int .i64) (.pair (.int .i64) (.int .i64))) a2.1.2 :: (cellsX T69 a2.2)))), (1002, .box 75 [.fn (.func 60) [] []]), (1003, .box 144 [.fn (.func 126) [] [.bp 1000 0, .bp 1001 0, .bp 1002 0, .bp 1003 0]])] ?_
      refine zo ?_
      refine zS 5 [(0, .int .i64 state), (3, .bp 1002 0), (4, .bp 1003 0), (7, .bp 7 0), (17, .sl (.pair (.int .i64) (.pair (.int .i64) (.int .i64))) a2.1.2), (18, .int .i64 (a2.1.2.length : Int)), (19, .int .i64 st1.2), (27, .bool (decide ((a2.1.2.getD st1.2.toNat (0, 0, 0)).1 = state)))] [(7, .box 66 [.int .i64 (a2.1.2.getD st1.2.toNat (0, 0, 0)).1, .int .i64 (a2.1.2.getD st1.2.toNat (0, 0, 0)).2.1, .int .i64 (a2.1.2.getD st1.2.toNat (0, 0, 0)).2.2]), (1000, .box 67 [.int .u8 st1.1]), (1001, .box 71 (.int .i64 a2.1.1 :: (.sl (.pair (.int .i64) (.pair (.int .i64) (.int .i64))) a2.1.2 :: (cellsX T69 a2.2)))), (1002, .box 75 [.fn (.func 60) [] []]), (1003, .box 144 [.fn (.func 126) [] [.bp 1000 0, .bp 1001 0, .bp 1002 0, .bp 1003 0]])] ?_
      rcases zI h with ⟨hb13, h⟩ | ⟨hb13, h⟩
      ·refine zS 3 [(0, .int .i64 state), (3, .bp 1002 0), (4, .bp 1003 0), (7, .bp 7 0), (17, .sl (.pair (.int .i64) (.pair (.int .i64) (.int .i64))) a2.1.2), (18, .int .i64 (a2.1.2.length : Int)), (19, .int .i64 st1.2), (27, .bool true), (28, .fn (.func 60) [] []), (30, .int .i64 (a2.1.2.getD st1.2.toNat (0, 0, 0)).2.1)] [(7, .box 66 [.int .i64 (a2.1.2.getD st1.2.toNat (0, 0, 0)).1, .int .i64 (a2.1.2.getD st1.2.toNat (0, 0, 0)).2.1, .int .i64 (a2.1.2.getD st1.2.toNat (0, 0, 0)).2.2]), (1000, .box 67 [.int .u8 st1.1]), (1001, .box 71 (.int .i64 a2.1.1 :: (.sl (.pair (.int .i64) (.pair (.int .i64) (.int .i64))) a2.1.2 :: (cellsX T69 a2.2)))), (1002, .box 75 [.fn (.func 60) [] []]), (1003, .box 144 [.fn (.func 126) [] [.bp 1000 0, .bp 1001 0, .bp 1002 0, .bp 1003 0]])] ?_
       obtain ⟨v0_2, hv14, h⟩ := Option.bind_eq_some_iff.1 h
       refine zG [] [] (hc_refine_isLabel (a2.1.2.getD st1.2.toNat (0, 0, 0)).2.1 hv14) [(0, .int .i64 state), (3, .bp 1002 0), (4, .bp 1003 0), (7, .bp 7 0), (17, .sl (.pair (.int .i64) (.pair (.int .i64) (.int .i64))) a2.1.2), (18, .int .i64 (a2.1.2.length : Int)), (19, .int .i64 st1.2), (27, .bool true), (31, .bool v0_2)] [(7, .box 66 [.int .i64 (a2.1.2.getD st1.2.toNat (0, 0, 0)).1, .int .i64 (a2.1.2.getD st1.2.toNat (0, 0, 0)).2.1, .int .i64 (a2.1.2.getD st1.2.toNat (0, 0, 0)).2.2]), (1000, .box 67 [.int .u8 st1.1]), (1001, .box 71 (.int .i64 a2.1.1 :: (.sl (.pair (.int .i64) (.pair (.int .i64) (.int .i64))) a2.1.2 :: (cellsX T69 a2.2)))), (1002, .box 75 [.fn (.func 60) [] []]), (1003, .box 144 [.fn (.func 126) [] [.bp 1000 0, .bp 1001 0, .bp 1002 0, .bp 1003 0]])] ?_
       refine zB [(0, .int .i64 state), (3, .bp 1002 0), (4, .bp 1003 0), (7, .bp 7 0), (17, .sl (.pair (.int .i64) (.pair (.int .i64) (.int .i64))) a2.1.2), (18, .int .i64 (a2.1.2.length : Int)), (19, .int .i64 st1.2), (32, .bool v0_2)] [(7, .box 66 [.int .i64 (a2.1.2.getD st1.2.toNat (0, 0, 0)).1, .int .i64 (a2.1.2.getD st1.2.toNat (0, 0, 0)).2.1, .int .i64 (a2.1.2.getD st1.2.toNat (0, 0, 0)).2.2]), (1000, .box 67 [.int .u8 st1.1]), (1001, .box 71 (.int .i64 a2.1.1 :: (.sl (.pair (.int .i64) (.pair (.int .i64) (.int .i64))) a2.1.2 :: (cellsX T69 a2.2)))), (1002, .box 75 [.fn (.func 60) [] []]), (1003, .box 144 [.fn (.func 126) [] [.bp 1000 0, .bp 1001 0, .bp 1002 0, .bp 1003 0]])] ?_
       refine zQ h (fun hb15 h => ?_) (fun hb15 h => ?_)
       ·refine AW.ops ?_
        refine zS 3 [(0, .int .i64 state), (3, .bp 1002 0), (4, .bp 1003 0), (17, .sl (.pair (.int .i64) (.pair (.int .i64) (.int .i64))) a2.1.2), (18, .int .i64 (a2.1.2.length : Int)), (19, .int .i64 st1.2), (33, .fn (.func 126) [] [.bp 1000 0, .bp 1001 0, .bp 1002 0, .bp 1003 0]), (35, .int .i64 (a2.1.2.getD st1.2.toNat (0, 0, 0)).2.2)] [(1000, .box 67 [.int .u8 st1.1]), (1001, .box 71 (.int .i64 a2.1.1 :: (.sl (.pair (.int .i64) (.pair (.int .i64) (.int .i64))) a2.1.2 :: (cellsX T69 a2.2)))), (1002, .box 75 [.fn (.func 60) [] []]), (1003, .box 144 [.fn (.func 126) [] [.bp 1000 0, .bp 1001 0, .bp 1002 0, .bp 1003 0]])] ?_
        obtain ⟨v0_3, hv16, h⟩ := Option.bind_eq_some_iff.1 h
        refine zC [] [(1000, 1000), (1001, 1001), (1002, 1002), (1003, 1003)] (hc_slf (a2.1.2.getD st1.2.toNat (0, 0, 0)).2.2 st1.1 a2 hv16) [(0, .int .i64 state), (3, .bp 1002 0), (4, .bp 1003 0), (17, .sl (.pair (.int .i64) (.pair (.int .i64) (.int .i64))) a2.1.2), (18, .int .i64 (a2.1.2.length : Int)), (19, .int .i64 st1.2)] [(1000, .box 67 [.int .u8 v0_3]), (1001, .box 71 (.int .i64 a2.1.1 :: (.sl (.pair (.int .i64) (.pair (.int .i64) (.int .i64))) a2.1.2 :: (cellsX T69 a2.2)))), (1002, .box 75 [.fn (.func 60) [] []]), (1003, .box 144 [.fn (.func 126) [] [.bp 1000 0, .bp 1001 0, .bp 1002 0, .bp 1003 0]])] ?_
        refine zA [(0, .int .i64 state), (3, .bp 1002 0), (4, .bp 1003 0), (17, .sl (.pair (.int .i64) (.pair (.int .i64) (.int .i64))) a2.1.2), (18, .int .i64 (a2.1.2.length : Int)), (19, .int .i64 st1.2)] [(1000, .box 67 [.int .u8 v0_3]), (1001, .box 71 (.int .i64 a2.1.1 :: (.sl (.pair (.int .i64) (.pair (.int .i64) (.int .i64))) a2.1.2 :: (cellsX T69 a2.2)))), (1002, .box 75 [.fn (.func 60) [] []]), (1003, .box 144 [.fn (.func 126) [] [.bp 1000 0, .bp 1001 0, .bp 1002 0, .bp 1003 0]])] ?_
        refine ablock_n ?_
        refine athen_n ?_
        refine AW.ops ?_
        obtain ⟨c17, h⟩ := ck_some.1 h
        refine zA [(0, .int .i64 state), (3, .bp 1002 0), (4, .bp 1003 0), (17, .sl (.pair (.int .i64) (.pair (.int .i64) (.int .i64))) a2.1.2), (18, .int .i64 (a2.1.2.length : Int)), (19, .int .i64 (st1.2 + 1))] [(1000, .box 67 [.int .u8 v0_3]), (1001, .box 71 (.int .i64 a2.1.1 :: (.sl (.pair (.int .i64) (.pair (.int .i64) (.int .i64))) a2.1.2 :: (cellsX T69 a2.2)))), (1002, .box 75 [.fn (.func 60) [] []]), (1003, .box 144 [.fn (.func 126) [] [.bp 1000 0, .bp 1001 0, .bp 1002 0, .bp 1003 0]])] ?_
        obtain rfl := Option.some.inj h
        exact ⟨_, rfl, zL [] [] []⟩
       ·refine zm ?_
        refine athen_n ?_
        refine AW.ops ?_
        obtain ⟨c18, h⟩ := ck_some.1 h
        refine zA [(0, .int .i64 state), (3, .bp 1002 0), (4, .bp 1003 0), (17, .sl (.pair (.int .i64) (.pair (.int .i64) (.int .i64))) a2.1.2), (18, .int .i64 (a2.1.2.length : Int)), (19, .int .i64 (st1.2 + 1))] [(1000, .box 67 [.int .u8 st1.1]), (1001, .box 71 (.int .i64 a2.1.1 :: (.sl (.pair (.int .i64) (.pair (.int .i64) (.int .i64))) a2.1.2 :: (cellsX T69 a2.2)))), (1002, .box 75 [.fn (.func 60) [] []]), (1003, .box 144 [.fn (.func 126) [] [.bp 1000 0, .bp 1001 0, .bp 1002 0, .bp 1003 0]])] ?_
        obtain rfl := Option.some.inj h
        exact ⟨_, rfl, zL [] [] []⟩
      ·refine zS 4 [(0, .int .i64 state), (3, .bp 1002 0), (4, .bp 1003 0), (7, .bp 7 0), (17, .sl (.pair (.int .i64) (.pair (.int .i64) (.int .i64))) a2.1.2), (18, .int .i64 (a2.1.2.length : Int)), (19, .int .i64 st1.2), (27, .bool false), (31, .cv (undef))] [(7, .box 66 [.int .i64 (a2.1.2.getD st1.2.toNat (0, 0, 0)).1, .int .i64 (a2.1.2.getD st1.2.toNat (0, 0, 0)).2.1, .int .i64 (a2.1.2.getD st1.2.toNat (0, 0, 0)).2.2]), (1000, .box 67 [.int .u8 st1.1]), (1001, .box 71 (.int .i64 a2.1.1 :: (.sl (.pair (.int .i64) (.pair (.int .i64) (.int .i64))) a2.1.2 :: (cellsX T69 a2.2)))), (1002, .box 75 [.fn (.func 60) [] []]), (1003, .box 144 [.fn (.func 126) [] [.bp 1000 0, .bp 1001 0, .bp 1002 0, .bp 1003 0]])] ?_
       refine zB [(0, .int .i64 state), (3, .bp 1002 0), (4, .bp 1003 0), (7, .bp 7 0), (17, .sl (.pair (.int .i64) (.pair (.int .i64) (.int .i64))) a2.1.2), (18, .int .i64 (a2.1.2.length : Int)), (19, .int .i64 st1.2), (32, .bool false)] [(7, .box 66 [.int .i64 (a2.1.2.getD st1.2.toNat (0, 0, 0)).1, .int .i64 (a2.1.2.getD st1.2.toNat (0, 0, 0)).2.1, .int .i64 (a2.1.2.getD st1.2.toNat (0, 0, 0)).2.2]), (1000, .box 67 [.int .u8 st1.1]), (1001, .box 71 (.int .i64 a2.1.1 :: (.sl (.pair (.int .i64) (.pair (.int .i64) (.int .i64))) a2.1.2 :: (cellsX T69 a2.2)))), (1002, .box 75 [.fn (.func 60) [] []]), (1003, .box 144 [.fn (.func 126) [] [.bp 1000 0, .bp 1001 0, .bp 1002 0, .bp 1003 0]])] ?_
       refine AW.cond (b := false) rfl (fun hb19 => by cases hb19) (fun _ => ?_)
       refine zm ?_
       refine athen_n ?_
       refine AW.ops ?_
       obtain ⟨c20, h⟩ := ck_some.1 h
       refine zA [(0, .int .i64 state), (3, .bp 1002 0), (4, .bp 1003 0), (17, .sl (.pair (.int .i64) (.pair (.int .i64) (.int .i64))) a2.1.2), (18, .int .i64 (a2.1.2.length : Int)), (19, .int .i64 (st1.2 + 1))] [(1000, .box 67 [.int .u8 st1.1]), (1001, .box 71 (.int .i64 a2.1.1 :: (.sl (.pair (.int .i64) (.pair (.int .i64) (.int .i64))) a2.1.2 :: (cellsX T69 a2.2)))), (1002, .box 75 [.fn (.func 60) [] []]), (1003, .box 144 [.fn (.func 126) [] [.bp 1000 0, .bp 1001 0, .bp 1002 0, .bp 1003 0]])] ?_
       obtain rfl := Option.some.inj h
       exact ⟨_, rfl, zL [] [] []⟩
     ·refine AW.exit ?_
      refine athen_e ?_
      obtain rfl := Option.some.inj h
      rw [← hd7 _ rfl] at ho6
      have h := ho6
      refine athen_e ?_
      refine ablock_s ?_
      obtain rfl := Option.some.inj h
      exact zR [] [] []

theorem hc_refine_frame_led_1_2 : ∀ (n : Nat) (state : Int) (a1 : Int) (a2 : (Int × (List (Int × Int × Int))) × (El T69)) {r : Int}, refine_frame_led_1_2 n state a1 a2 = some r → HC Try.prog 126 [(1000, .box 67 [.int .u8 a1]), (1001, .box 71 (.int .i64 a2.1.1 :: (.sl (.pair (.int .i64) (.pair (.int .i64) (.int .i64))) a2.1.2 :: (cellsX T69 a2.2)))), (1002, .box 75 [.fn (.func 60) [] []]), (1003, .box 144 [.fn (.func 126) [] [.bp 1000 0, .bp 1001 0, .bp 1002 0, .bp 1003 0]])] [.int .i64 state, .bp 1000 0, .bp 1001 0, .bp 1002 0, .bp 1003 0] [(1000, .box 67 [.int .u8 r]), (1001, .box 71 (.int .i64 a2.1.1 :: (.sl (.pair (.int .i64) (.pair (.int .i64) (.int .i64))) a2.1.2 :: (cellsX T69 a2.2)))), (1002, .box 75 [.fn (.func 60) [] []]), (1003, .box 144 [.fn (.func 126) [] [.bp 1000 0, .bp 1001 0, .bp 1002 0, .bp 1003 0]])] (.tup []) := by
 intro n
 induction n with
 | zero => intro state a1 a2 r h; cases h
 | succ n ih => intro state a1 a2 r h; exact hc_refine_frame_led_1_2F (refine_frame_led_1_2 n) ih state a1 a2 h

theorem hc_refine_frame_led_2 (f : (Int × (List (Int × Int × Int))) × (El T69)) (from0 : Int) {r : Int} (h : refine_frame_led_2 f from0 = some r) : HC Try.prog 102 [] [.agg (.int .i64 f.1.1 :: (.sl (.pair (.int .i64) (.pair (.int .i64) (.int .i64))) f.1.2 :: (cellsX T69 f.2))), .int .i64 from0, .fn (.func 60) [] []] [] (.int .u8 r) := by
 unfold refine_frame_led_2 at h
 refine zH Try.func102 [.tmp 6] 14 ?_
 refine zo ?_
 refine zB [(1, .int .i64 from0), (3, .bp 3 0), (5, .bp 5 0)] [(3, .box 71 (.int .i64 f.1.1 :: (.sl (.pair (.int .i64) (.pair (.int .i64) (.int .i64))) f.1.2 :: (cellsX T69 f.2)))), (5, .box 75 [.fn (.func 60) [] []])] ?_
 refine zo ?_
 refine zB [(1, .int .i64 from0), (3, .bp 3 0), (5, .bp 5 0), (7, .bp 7 0)] [(3, .box 71 (.int .i64 f.1.1 :: (.sl (.pair (.int .i64) (.pair (.int .i64) (.int .i64))) f.1.2 :: (cellsX T69 f.2)))), (5, .box 75 [.fn (.func 60) [] []]), (7, .box 67 [.int .u8 0])] ?_
 refine zo ?_
 refine zB [(1, .int .i64 from0), (3, .bp 3 0), (5, .bp 5 0), (7, .bp 7 0), (8, .bp 8 0)] [(3, .box 71 (.int .i64 f.1.1 :: (.sl (.pair (.int .i64) (.pair (.int .i64) (.int .i64))) f.1.2 :: (cellsX T69 f.2)))), (5, .box 75 [.fn (.func 60) [] []]), (7, .box 67 [.int .u8 0]), (8, .box 144 [.cv (.nilFunc)])] ?_
 refine zo ?_
 refine zB [(1, .int .i64 from0), (7, .bp 7 0), (8, .bp 8 0)] [(3, .box 71 (.int .i64 f.1.1 :: (.sl (.pair (.int .i64) (.pair (.int .i64) (.int .i64))) f.1.2 :: (cellsX T69 f.2)))), (5, .box 75 [.fn (.func 60) [] []]), (7, .box 67 [.int .u8 0]), (8, .box 144 [.fn (.func 126) [] [.bp 7 0, .bp 3 0, .bp 5 0, .bp 8 0]])] ?_
 refine zo ?_
 refine zS 2 [(7, .bp 7 0), (10, .fn (.func 126) [] [.bp 7 0, .bp 3 0, .bp 5 0, .bp 8 0]), (11, .int .i64 from0)] [(3, .box 71 (.int .i64 f.1.1 :: (.sl (.pair (.int .i64) (.pair (.int .i64) (.int .i64))) f.1.2 :: (cellsX T69 f.2)))), (5, .box 75 [.fn (.func 60) [] []]), (7, .box 67 [.int .u8 0]), (8, .box 144 [.fn (.func 126) [] [.bp 7 0, .bp 3 0, .bp 5 0, .bp 8 0]])] ?_
 obtain ⟨v0, hv1, h⟩ := Option.bind_eq_some_iff.1 h
 refine zC [] [(1000, 7), (1001, 3), (1002, 5), (1003, 8)] (hc_refine_frame_led_1_2 fuel from0 0 f hv1) [(7, .bp 7 0)] [(7, .box 67 [.int .u8 v0])] ?_
 refine zB [(7, .bp 7 0)] [(7, .box 67 [.int .u8 v0])] ?_
 refine zo ?_
 refine zB [(6, .int .u8 v0)] [] ?_
 refine AW.ret ?_
 obtain rfl := Option.some.inj h
 exact zR [] [] []

theorem hc_refine_frame_reached (f : (Int × (List (Int × Int × Int))) × (El T69)) {r : Int} (h : refine_frame_reached f = some r) : HC Try.prog 67 [] [.agg (.int .i64 f.1.1 :: (.sl (.pair (.int .i64) (.pair (.int .i64) (.int .i64))) f.1.2 :: (cellsX T69 f.2)))] [] (.int .u8 r) := by
 unfold refine_frame_reached at h
 refine zH Try.func67 [.tmp 2] 5 ?_
 refine zo ?_
 refine zB [(1, .bp 1 0)] [(1, .box 71 (.int .i64 f.1.1 :: (.sl (.pair (.int .i64) (.pair (.int .i64) (.int .i64))) f.1.2 :: (cellsX T69 f.2))))] ?_
 refine zo ?_
 refine zS 1 [(3, .agg (.int .i64 f.1.1 :: (.sl (.pair (.int .i64) (.pair (.int .i64) (.int .i64))) f.1.2 :: (cellsX T69 f.2))))] [] ?_
 obtain ⟨v0, hv1, h⟩ := Option.bind_eq_some_iff.1 h
 refine zC [] [] (hc_refine_frame_led_2 f 0 hv1) [(4, .int .u8 v0)] [] ?_
 refine zB [(2, .int .u8 v0)] [] ?_
 refine AW.ret ?_
 obtain rfl := Option.some.inj h
 exact zR [] [] []

theorem hc_refine_Reached (s : Int × (List (Int × Int × Int))) {r : (List Int) × Int} (h : refine_Reached s = some r) : HC Try.prog 23 [] [.agg [.int .i64 s.1, .sl (.pair (.int .i64) (.pair (.int .i64) (.int .i64))) s.2]] [(2000, .arr 3 (.int .i64) r.1)] (.tup [.own 2000, .int .i64 r.2]) := by
 unfold refine_Reached at h
 refine zH Try.func23 [.tmp 2, .tmp 3] 17 ?_
 refine zo ?_
 refine zB [(1, .bp 1 0)] [(1, .box 24 [.int .i64 s.1, .sl (.pair (.int .i64) (.pair (.int .i64) (.int .i64))) s.2])] ?_
 refine zo ?_
 refine zS 1 [(7, .agg [.int .i64 s.1, .sl (.pair (.int .i64) (.pair (.int .i64) (.int .i64))) s.2])] [] ?_
 obtain ⟨v0, hv1, h⟩ := Option.bind_eq_some_iff.1 h
 refine zC [] [] (hc_refine_frameOf s hv1) [(8, .tup [.agg (.int .i64 v0.1 :: (.sl (.pair (.int .i64) (.pair (.int .i64) (.int .i64))) v0.2.1 :: (cellsX T69 v0.2.2.1))), .int .i64 v0.2.2.2])] [] ?_
 refine zS 5 [(4, .bp 4 0), (10, .int .i64 v0.2.2.2)] [(4, .box 71 (.int .i64 v0.1 :: (.sl (.pair (.int .i64) (.pair (.int .i64) (.int .i64))) v0.2.1 :: (cellsX T69 v0.2.2.1))))] ?_
 refine zB [(4, .bp 4 0), (5, .int .i64 v0.2.2.2)] [(4, .box 71 (.int .i64 v0.1 :: (.sl (.pair (.int .i64) (.pair (.int .i64) (.int .i64))) v0.2.1 :: (cellsX T69 v0.2.2.1))))] ?_
 refine AW.seq ?_
 refine zo ?_
 refine zB [(4, .bp 4 0), (5, .int .i64 v0.2.2.2), (12, .bool (!(decide (v0.2.2.2 = 0))))] [(4, .box 71 (.int .i64 v0.1 :: (.sl (.pair (.int .i64) (.pair (.int .i64) (.int .i64))) v0.2.1 :: (cellsX T69 v0.2.2.1))))] ?_
 refine zQ h (fun hb2 h => ?_) (fun hb2 h => ?_)
 ·refine zo ?_
  refine zB [(2, .cv (.slice none 0 0)), (3, .int .i64 v0.2.2.2)] [] ?_
  refine zr ?_
  obtain rfl := Option.some.inj h
  exact zR [] [2000] []
 ·refine zk ?_
  refine zo ?_
  refine zS 1 [(14, .agg (.int .i64 v0.1 :: (.sl (.pair (.int .i64) (.pair (.int .i64) (.int .i64))) v0.2.1 :: (cellsX T69 v0.2.2.1))))] [] ?_
  obtain ⟨v0_2, hv3, h⟩ := Option.bind_eq_some_iff.1 h
  refine zC [] [] (hc_refine_frame_reached ((v0.1, v0.2.1), v0.2.2.1) hv3) [(15, .int .u8 v0_2)] [] ?_
  obtain ⟨v0_3, hv4, h⟩ := Option.bind_eq_some_iff.1 h
  refine zC [] [] (hc_refine_set_states v0_2 hv4) [(16, .own 26000)] [(26000, .arr 3 (.int .i64) v0_3)] ?_
  refine zB [(2, .own 26000), (3, .int .i64 0)] [(26000, .arr 3 (.int .i64) v0_3)] ?_
  refine AW.ret ?_
  obtain rfl := Option.some.inj h
  exact zR [] [] [(2000, 26000)]

end Go.Proofs.Ytifleoceebaooaa
