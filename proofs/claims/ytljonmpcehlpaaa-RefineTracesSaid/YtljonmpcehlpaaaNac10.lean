/-
  Made by wip/tool/dc.py out of the print of the program: contracts.
-/
import Derived.Test.YtljonmpcehlpaaaRfp
import Derived.Test.YtljonmpcehlpaaaShr
import Derived.Test.YtljonmpcehlpaaaAvd
import Derived.Test.YtljonmpcehlpaaaNac1
import Derived.Test.YtljonmpcehlpaaaNac6
import Derived.Test.YtljonmpcehlpaaaNac7
import Derived.Test.YtljonmpcehlpaaaNac8
import Derived.Test.YtljonmpcehlpaaaNac9
namespace Go.Proofs.Ytljonmpcehlpaaa
open Go.RowKit

set_option linter.unusedSimpArgs false
set_option linter.unusedVariables false
set_option linter.constructorNameAsVariable false

set_option maxRecDepth 100000
set_option maxHeartbeats 2000000

theorem hc_linealref05_tracesF (slf : (Int × (List (Int × Int × Int))) → (List Int) → Int → Option ((List (List Int)))) (hc_slf : ∀ (s : Int × (List (Int × Int × Int))) (begin : List Int) (most : Int) {r : (List (List Int))}, slf s begin most = some r → HC Try.prog 79 [] [.agg [.int .i64 s.1, .sl (.pair (.int .i64) (.pair (.int .i64) (.int .i64))) s.2], .sl (.int .i64) begin, .int .i64 most] [(2000, .arr 27 (.sl (.int .i64)) r)] (.own 2000)) (s : Int × (List (Int × Int × Int))) (begin : List Int) (most : Int) {r : (List (List Int))} (h : linealref05_tracesF slf s begin most = some r) : HC Try.prog 79 [] [.agg [.int .i64 s.1, .sl (.pair (.int .i64) (.pair (.int .i64) (.int .i64))) s.2], .sl (.int .i64) begin, .int .i64 most] [(2000, .arr 27 (.sl (.int .i64)) r)] (.own 2000) := by
 unfold linealref05_tracesF at h
 refine zH Try.func79 [.tmp 6] 36 ?_
 refine zo ?_
 refine zB [(1, .sl (.int .i64) begin), (2, .int .i64 most), (3, .bp 3 0)] [(3, .box 24 [.int .i64 s.1, .sl (.pair (.int .i64) (.pair (.int .i64) (.int .i64))) s.2])] ?_
 refine AW.seq ?_
 refine zo ?_
 refine zS 2 [(1, .sl (.int .i64) begin), (2, .int .i64 most), (3, .bp 3 0), (9, .agg [.int .i64 s.1, .sl (.pair (.int .i64) (.pair (.int .i64) (.int .i64))) s.2]), (10, .sl (.int .i64) begin)] [(3, .box 24 [.int .i64 s.1, .sl (.pair (.int .i64) (.pair (.int .i64) (.int .i64))) s.2])] ?_
 obtain ⟨v0, hv1, h⟩ := Option.bind_eq_some_iff.1 h
 refine zC [] [] (hc_linealref05_behind s begin hv1) [(1, .sl (.int .i64) begin), (2, .int .i64 most), (3, .bp 3 0), (11, .int .i64 v0)] [(3, .box 24 [.int .i64 s.1, .sl (.pair (.int .i64) (.pair (.int .i64) (.int .i64))) s.2])] ?_
 refine zB [(1, .sl (.int .i64) begin), (2, .int .i64 most), (3, .bp 3 0), (12, .bool (decide (v0 = 0)))] [(3, .box 24 [.int .i64 s.1, .sl (.pair (.int .i64) (.pair (.int .i64) (.int .i64))) s.2])] ?_
 refine zQ h (fun hb2 h => ?_) (fun hb2 h => ?_)
 ·refine zo ?_
  refine zB [(6, .cv (.slice none 0 0))] [] ?_
  refine zr ?_
  obtain rfl := Option.some.inj h
  exact zR [] [2000] []
 ·refine zk ?_
  refine zo ?_
  refine zB [(1, .sl (.int .i64) begin), (2, .int .i64 most), (3, .bp 3 0), (7, .own 14)] [(3, .box 24 [.int .i64 s.1, .sl (.pair (.int .i64) (.pair (.int .i64) (.int .i64))) s.2]), (14, .arr 27 (.sl (.int .i64)) [begin])] ?_
  refine AW.have1 (fun b1 : (List (List Int)) => linealref05_traces_k1 b1 = some r) (fun b1 => ⟨fr [(7, .own 14)], hpGet [(14, .arr 27 (.sl (.int .i64)) b1)], gt⟩) (fun b1 h => ?_) (fun hk_linealref05_traces_k1 => ?_)
  ·as_aux_lemma =>
    unfold linealref05_traces_k1 at h
    refine zo ?_
    refine zB [(6, .own 14)] [(14, .arr 27 (.sl (.int .i64)) b1)] ?_
    refine AW.ret ?_
    obtain rfl := Option.some.inj h
    exact zR [] [] [(2000, 14)]
  ·refine AW.seq ?_
   refine zo ?_
   refine zB [(1, .sl (.int .i64) begin), (2, .int .i64 most), (3, .bp 3 0), (7, .own 14), (8, .int .i64 1)] [(3, .box 24 [.int .i64 s.1, .sl (.pair (.int .i64) (.pair (.int .i64) (.int .i64))) s.2]), (14, .arr 27 (.sl (.int .i64)) [begin])] ?_
   refine AW.block ?_
   obtain ⟨rv7, hw3, ho4⟩ := Option.bind_eq_some_iff.1 h
   refine AW.loopO (linealref05_traces_b1 slf s begin most) (fun st1 => ⟨fr [(1, .sl (.int .i64) begin), (2, .int .i64 most), (3, .bp 3 0), (7, .own 14), (8, .int .i64 st1.2)], hpGet [(3, .box 24 [.int .i64 s.1, .sl (.pair (.int .i64) (.pair (.int .i64) (.int .i64))) s.2]), (14, .arr 27 (.sl (.int .i64)) st1.1)], gt⟩) ([begin], 1) hw3 (zL [] [] []) ?_
   as_aux_lemma =>
    intro st1 x6 h hd5
    unfold linealref05_traces_b1 at h
    refine AW.seq ?_
    refine zo ?_
    refine zS 3 [(1, .sl (.int .i64) begin), (2, .int .i64 most), (3, .bp 3 0), (7, .own 14), (8, .int .i64 st1.2), (17, .bool (decide (st1.2 ≤ 3)))] [(3, .box 24 [.int .i64 s.1, .sl (.pair (.int .i64) (.pair (.int .i64) (.int .i64))) s.2]), (14, .arr 27 (.sl (.int .i64)) st1.1)] ?_
    rcases zI h with ⟨hb8, h⟩ | ⟨hb8, h⟩
    ·refine zB [(1, .sl (.int .i64) begin), (2, .int .i64 most), (3, .bp 3 0), (7, .own 14), (8, .int .i64 st1.2), (20, .bool (decide (0 < most)))] [(3, .box 24 [.int .i64 s.1, .sl (.pair (.int .i64) (.pair (.int .i64) (.int .i64))) s.2]), (14, .arr 27 (.sl (.int .i64)) st1.1)] ?_
     refine zQ h (fun hb9 h => ?_) (fun hb9 h => ?_)
     ·refine zk ?_
      refine AW.seq ?_
      refine AW.block ?_
      refine AW.draw tab_ok mixed_ok [(2, [25]), (4, [25, 27]), (6, [29]), (7, [27, 30]), (10, [30, 43000]), (11, [14, 34])] [(0, [14]), (1, [3]), (2, [25]), (3, []), (4, [25, 27]), (5, []), (6, [29]), (8, []), (9, [])] (by decide) (lex_fast (by kernel_rfl)) ?_
      as_aux_lemma =>
       obtain ⟨c11, h⟩ := ck_some.1 h
       refine adops_cut 6 (fun K' hK10 => ?_)
       try dsimp only [List.drop_succ_cons, List.drop_zero, List.take_succ_cons, List.take_zero]
       simp only [go_sem, hb2, hb8, hb9]
       repeat with_reducible refine zN ?_
       refine hK10 _ ?_
       as_aux_lemma =>
        obtain ⟨c13, h⟩ := ck_some.1 h
        obtain ⟨c14, h⟩ := ck_some.1 h
        refine adops_cut 4 (fun K' hK12 => ?_)
        try dsimp only [List.drop_succ_cons, List.drop_zero, List.take_succ_cons, List.take_zero]
        simp only [go_sem, hb2, hb8, hb9]
        repeat with_reducible refine zN ?_
        refine hK12 _ ?_
        as_aux_lemma =>
         obtain ⟨v0_2, hv15, h⟩ := Option.bind_eq_some_iff.1 h
         refine adops.call (by first | trivial | rfl) rfl rfl rfl (fun _ h => h) [30] [] (hc_slf s (begin ++ [st1.2]) (most - 1) hv15) rfl (by (simp only [go_sem, hb2, hb8, hb9]) <;> (with_reducible and_intros) <;> first | assumption | rfl | omega | (unfold maxLen; omega)) (by (simp only [go_sem, hb2, hb8, hb9]) <;> (with_reducible and_intros) <;> first | assumption | rfl | omega | (unfold maxLen; omega)) rfl ?_
         obtain ⟨c17, h⟩ := ck_some.1 h
         refine adops_cut 2 (fun K' hK16 => ?_)
         try dsimp only [List.drop_succ_cons, List.drop_zero, List.take_succ_cons, List.take_zero]
         simp only [go_sem, hb2, hb8, hb9]
         repeat with_reducible refine zN ?_
         refine hK16 _ ?_
         refine adops_nil ?_
         refine ablock_n ?_
         refine athen_n ?_
         refine zV [(1, .sl (.int .i64) begin), (2, .int .i64 most), (3, .bp 3 0), (7, .own 34), (8, .int .i64 st1.2)] [(3, .box 24 [.int .i64 s.1, .sl (.pair (.int .i64) (.pair (.int .i64) (.int .i64))) s.2]), (34, .arr 27 (.sl (.int .i64)) (st1.1 ++ v0_2))] gt ?_
         as_aux_lemma =>
          refine AW.ops ?_
          obtain ⟨c18, h⟩ := ck_some.1 h
          refine zA [(1, .sl (.int .i64) begin), (2, .int .i64 most), (3, .bp 3 0), (7, .own 34), (8, .int .i64 (st1.2 + 1))] [(3, .box 24 [.int .i64 s.1, .sl (.pair (.int .i64) (.pair (.int .i64) (.int .i64))) s.2]), (34, .arr 27 (.sl (.int .i64)) (st1.1 ++ v0_2))] ?_
          obtain rfl := Option.some.inj h
          exact ⟨_, rfl, zL [] [] [(14, 34)]⟩
     ·refine AW.exit ?_
      refine athen_e ?_
      obtain rfl := Option.some.inj h
      rw [← hd5 _ rfl] at ho4
      have h := ho4
      refine athen_e ?_
      refine ablock_s ?_
      refine athen_n ?_
      exact AW.weaken (zL [] [] []) (hk_linealref05_traces_k1 _ h)
    ·refine zB [(1, .sl (.int .i64) begin), (2, .int .i64 most), (3, .bp 3 0), (7, .own 14), (8, .int .i64 st1.2), (20, .bool false)] [(3, .box 24 [.int .i64 s.1, .sl (.pair (.int .i64) (.pair (.int .i64) (.int .i64))) s.2]), (14, .arr 27 (.sl (.int .i64)) st1.1)] ?_
     refine AW.cond (b := false) rfl (fun hb19 => by cases hb19) (fun _ => ?_)
     refine AW.exit ?_
     refine athen_e ?_
     obtain rfl := Option.some.inj h
     rw [← hd5 _ rfl] at ho4
     have h := ho4
     refine athen_e ?_
     refine ablock_s ?_
     refine athen_n ?_
     exact AW.weaken (zL [] [] []) (hk_linealref05_traces_k1 _ h)

theorem hc_linealref05_traces : ∀ (n : Nat) (s : Int × (List (Int × Int × Int))) (begin : List Int) (most : Int) {r : (List (List Int))}, linealref05_traces n s begin most = some r → HC Try.prog 79 [] [.agg [.int .i64 s.1, .sl (.pair (.int .i64) (.pair (.int .i64) (.int .i64))) s.2], .sl (.int .i64) begin, .int .i64 most] [(2000, .arr 27 (.sl (.int .i64)) r)] (.own 2000) := by
 intro n
 induction n with
 | zero => intro s begin most r h; cases h
 | succ n ih => intro s begin most r h; exact hc_linealref05_tracesF (linealref05_traces n) ih s begin most h

theorem hc_linealref05_Traces (s : Int × (List (Int × Int × Int))) (most : Int) {r : (List (List Int)) × Int} (h : linealref05_Traces s most = some r) : HC Try.prog 30 [] [.agg [.int .i64 s.1, .sl (.pair (.int .i64) (.pair (.int .i64) (.int .i64))) s.2], .int .i64 most] [(2000, .arr 27 (.sl (.int .i64)) r.1)] (.tup [.own 2000, .int .i64 r.2]) := by
 unfold linealref05_Traces at h
 refine zH Try.func30 [.tmp 4, .tmp 5] 18 ?_
 refine zo ?_
 refine zB [(1, .int .i64 most), (2, .bp 2 0)] [(2, .box 24 [.int .i64 s.1, .sl (.pair (.int .i64) (.pair (.int .i64) (.int .i64))) s.2])] ?_
 refine AW.seq ?_
 refine zo ?_
 refine zS 1 [(1, .int .i64 most), (2, .bp 2 0), (6, .agg [.int .i64 s.1, .sl (.pair (.int .i64) (.pair (.int .i64) (.int .i64))) s.2])] [(2, .box 24 [.int .i64 s.1, .sl (.pair (.int .i64) (.pair (.int .i64) (.int .i64))) s.2])] ?_
 obtain ⟨v0, hv1, h⟩ := Option.bind_eq_some_iff.1 h
 refine zC [] [] (hc_linealref05_Valid s hv1) [(1, .int .i64 most), (2, .bp 2 0), (7, .bool v0)] [(2, .box 24 [.int .i64 s.1, .sl (.pair (.int .i64) (.pair (.int .i64) (.int .i64))) s.2])] ?_
 refine zB [(1, .int .i64 most), (2, .bp 2 0), (8, .bool (!v0))] [(2, .box 24 [.int .i64 s.1, .sl (.pair (.int .i64) (.pair (.int .i64) (.int .i64))) s.2])] ?_
 refine zQ h (fun hb2 h => ?_) (fun hb2 h => ?_)
 ·refine zo ?_
  refine zB [(4, .cv (.slice none 0 0)), (5, .int .i64 50)] [] ?_
  refine zr ?_
  obtain rfl := Option.some.inj h
  exact zR [] [2000] []
 ·refine zk ?_
  refine AW.seq ?_
  refine zo ?_
  refine zS 3 [(1, .int .i64 most), (2, .bp 2 0), (11, .bool (decide (most < 0)))] [(2, .box 24 [.int .i64 s.1, .sl (.pair (.int .i64) (.pair (.int .i64) (.int .i64))) s.2])] ?_
  rcases zI h with ⟨hb3, h⟩ | ⟨hb3, h⟩
  ·refine zB [(1, .int .i64 most), (2, .bp 2 0), (14, .bool true)] [(2, .box 24 [.int .i64 s.1, .sl (.pair (.int .i64) (.pair (.int .i64) (.int .i64))) s.2])] ?_
   refine AW.cond (b := true) rfl (fun _ => ?_) (fun hb4 => by cases hb4)
   refine zo ?_
   refine zB [(4, .cv (.slice none 0 0)), (5, .int .i64 2)] [] ?_
   refine zr ?_
   obtain rfl := Option.some.inj h
   exact zR [] [2000] []
  ·refine zB [(1, .int .i64 most), (2, .bp 2 0), (14, .bool (decide (5 < most)))] [(2, .box 24 [.int .i64 s.1, .sl (.pair (.int .i64) (.pair (.int .i64) (.int .i64))) s.2])] ?_
   refine zQ h (fun hb5 h => ?_) (fun hb5 h => ?_)
   ·refine zo ?_
    refine zB [(4, .cv (.slice none 0 0)), (5, .int .i64 2)] [] ?_
    refine zr ?_
    obtain rfl := Option.some.inj h
    exact zR [] [2000] []
   ·refine zk ?_
    refine zo ?_
    refine zS 2 [(15, .agg [.int .i64 s.1, .sl (.pair (.int .i64) (.pair (.int .i64) (.int .i64))) s.2]), (16, .int .i64 most)] [] ?_
    obtain ⟨v0_2, hv6, h⟩ := Option.bind_eq_some_iff.1 h
    refine zC [] [] (hc_linealref05_traces fuel s [] most hv6) [(17, .own 27000)] [(27000, .arr 27 (.sl (.int .i64)) v0_2)] ?_
    refine zB [(4, .own 27000), (5, .int .i64 0)] [(27000, .arr 27 (.sl (.int .i64)) v0_2)] ?_
    refine AW.ret ?_
    obtain rfl := Option.some.inj h
    exact zR [] [] [(2000, 27000)]

theorem hc_linealref05_SameLists (a : List (List Int)) (b : List (List Int)) {r : Bool} (h : linealref05_SameLists a b = some r) : HC Try.prog 31 [] [.sl (.sl (.int .i64)) a, .sl (.sl (.int .i64)) b] [] (.bool r) := by
 unfold linealref05_SameLists at h
 refine zH Try.func31 [.tmp 4] 27 ?_
 refine zo ?_
 refine zB [(0, .sl (.sl (.int .i64)) a), (1, .sl (.sl (.int .i64)) b)] [] ?_
 refine AW.seq ?_
 refine zo ?_
 refine zB [(0, .sl (.sl (.int .i64)) a), (1, .sl (.sl (.int .i64)) b), (10, .bool (!(decide ((a.length : Int) = (b.length : Int)))))] [] ?_
 refine zQ h (fun hb1 h => ?_) (fun hb1 h => ?_)
 ·refine zo ?_
  refine zB [(4, .bool false)] [] ?_
  refine zr ?_
  obtain rfl := Option.some.inj h
  exact zR [] [] []
 ·refine zk ?_
  refine AW.have1 (fun _ : Unit => linealref05_SameLists_k1 = some r) (fun _ => ⟨fr [], hpGet [], gt⟩) (fun _ h => ?_) (fun hk_linealref05_SameLists_k1 => ?_)
  ·as_aux_lemma =>
    unfold linealref05_SameLists_k1 at h
    refine zo ?_
    refine zB [(4, .bool true)] [] ?_
    refine AW.ret ?_
    obtain rfl := Option.some.inj h
    exact zR [] [] []
  ·refine AW.seq ?_
   refine zo ?_
   refine zB [(0, .sl (.sl (.int .i64)) a), (1, .sl (.sl (.int .i64)) b), (12, .int .i64 (a.length : Int)), (13, .int .i64 0)] [] ?_
   refine AW.block ?_
   obtain ⟨rv6, hw2, ho3⟩ := Option.bind_eq_some_iff.1 h
   refine AW.loopO (linealref05_SameLists_b1 a b) (fun st1 => ⟨fr [(0, .sl (.sl (.int .i64)) a), (1, .sl (.sl (.int .i64)) b), (12, .int .i64 (a.length : Int)), (13, .int .i64 st1)], hpGet [], gt⟩) 0 hw2 (zL [] [] []) ?_
   as_aux_lemma =>
    intro st1 x5 h hd4
    unfold linealref05_SameLists_b1 at h
    refine zo ?_
    refine zB [(0, .sl (.sl (.int .i64)) a), (1, .sl (.sl (.int .i64)) b), (12, .int .i64 (a.length : Int)), (13, .int .i64 st1), (14, .bool (decide (st1 < (a.length : Int))))] [] ?_
    refine AW.seq ?_
    refine zQ h (fun hb7 h => ?_) (fun hb7 h => ?_)
    ·refine zk ?_
     refine AW.seq ?_
     refine AW.block ?_
     refine zo ?_
     refine zB [(0, .sl (.sl (.int .i64)) a), (1, .sl (.sl (.int .i64)) b), (5, .int .i64 st1), (12, .int .i64 (a.length : Int)), (13, .int .i64 st1)] [] ?_
     refine AW.seq ?_
     refine AW.draw tab_ok mixed_ok [] [] (by decide) (lex_fast (by kernel_rfl)) ?_
     as_aux_lemma =>
      obtain ⟨c9, h⟩ := ck_some.1 h
      obtain ⟨c10, h⟩ := ck_some.1 h
      refine adops_cut 6 (fun K' hK8 => ?_)
      try dsimp only [List.drop_succ_cons, List.drop_zero, List.take_succ_cons, List.take_zero]
      simp only [go_sem, hb1, hb7]
      repeat with_reducible refine zN ?_
      refine hK8 _ ?_
      as_aux_lemma =>
       obtain ⟨c12, h⟩ := ck_some.1 h
       obtain ⟨c13, h⟩ := ck_some.1 h
       refine adops_cut 2 (fun K' hK11 => ?_)
       try dsimp only [List.drop_succ_cons, List.drop_zero, List.take_succ_cons, List.take_zero]
       simp only [go_sem, hb1, hb7]
       repeat with_reducible refine zN ?_
       refine hK11 _ ?_
       as_aux_lemma =>
        obtain ⟨v0, hv14, h⟩ := Option.bind_eq_some_iff.1 h
        refine adops.call (by first | trivial | rfl) rfl rfl rfl (fun _ h => h) [] [] (hc_linealref05_SameInts (a.getD st1.toNat []) (b.getD st1.toNat []) hv14) rfl (by (simp only [go_sem, hb1, hb7]) <;> (with_reducible and_intros) <;> first | assumption | rfl | omega | (unfold maxLen; omega)) (by (simp only [go_sem, hb1, hb7]) <;> (with_reducible and_intros) <;> first | assumption | rfl | omega | (unfold maxLen; omega)) rfl ?_
        refine adops_cut 1 (fun K' hK15 => ?_)
        try dsimp only [List.drop_succ_cons, List.drop_zero, List.take_succ_cons, List.take_zero]
        simp only [go_sem, hb1, hb7]
        repeat with_reducible refine zN ?_
        refine hK15 _ ?_
        refine adops_nil ?_
        refine athen_n ?_
        refine zV [(0, .sl (.sl (.int .i64)) a), (1, .sl (.sl (.int .i64)) b), (12, .int .i64 (a.length : Int)), (13, .int .i64 st1), (25, .bool (!v0))] [] gt ?_
        as_aux_lemma =>
         refine zQ h (fun hb16 h => ?_) (fun hb16 h => ?_)
         ·refine zo ?_
          refine zB [(4, .bool false)] [] ?_
          refine AW.ret ?_
          refine ablock_r ?_
          refine athen_r ?_
          obtain rfl := Option.some.inj h
          rw [← hd4 _ rfl] at ho3
          have h := ho3
          try simp only at h
          refine athen_r ?_
          refine ablock_r ?_
          refine athen_r ?_
          obtain rfl := Option.some.inj h
          exact zR [] [] []
         ·refine zm ?_
          refine athen_n ?_
          refine AW.ops ?_
          obtain ⟨c17, h⟩ := ck_some.1 h
          refine zA [(0, .sl (.sl (.int .i64)) a), (1, .sl (.sl (.int .i64)) b), (12, .int .i64 (a.length : Int)), (13, .int .i64 (st1 + 1))] [] ?_
          obtain rfl := Option.some.inj h
          exact ⟨_, rfl, zL [] [] []⟩
    ·refine AW.exit ?_
     refine athen_e ?_
     obtain rfl := Option.some.inj h
     rw [← hd4 _ rfl] at ho3
     have h := ho3
     try simp only at h
     refine athen_e ?_
     refine ablock_s ?_
     refine athen_n ?_
     exact AW.weaken (zL [] [] []) (hk_linealref05_SameLists_k1 () h)

theorem hc_lineallaw05_RefineTraces (s : Int × (List (Int × Int × Int))) (trace : List Int) (most : Int) {r : Bool} (h : lineallaw05_RefineTraces s trace most = some r) : HC Try.prog 4 [] [.agg [.int .i64 s.1, .sl (.pair (.int .i64) (.pair (.int .i64) (.int .i64))) s.2], .sl (.int .i64) trace, .int .i64 most] [] (.bool r) := by
 unfold lineallaw05_RefineTraces at h
 refine zH Try.func4 [.tmp 6] 68 ?_
 refine zo ?_
 refine zB [(1, .sl (.int .i64) trace), (2, .int .i64 most), (3, .bp 3 0)] [(3, .box 24 [.int .i64 s.1, .sl (.pair (.int .i64) (.pair (.int .i64) (.int .i64))) s.2])] ?_
 refine AW.seq ?_
 refine zo ?_
 refine zS 1 [(1, .sl (.int .i64) trace), (2, .int .i64 most), (3, .bp 3 0), (15, .agg [.int .i64 s.1, .sl (.pair (.int .i64) (.pair (.int .i64) (.int .i64))) s.2])] [(3, .box 24 [.int .i64 s.1, .sl (.pair (.int .i64) (.pair (.int .i64) (.int .i64))) s.2])] ?_
 obtain ⟨v0, hv1, h⟩ := Option.bind_eq_some_iff.1 h
 refine zC [] [] (hc_lineallaw05_Long s hv1) [(1, .sl (.int .i64) trace), (2, .int .i64 most), (3, .bp 3 0), (16, .bool (decide (100 < (s.2.length : Int))))] [(3, .box 24 [.int .i64 s.1, .sl (.pair (.int .i64) (.pair (.int .i64) (.int .i64))) s.2])] ?_
 refine zS 1 [(1, .sl (.int .i64) trace), (2, .int .i64 most), (3, .bp 3 0), (17, .bool (decide (100 < (s.2.length : Int))))] [(3, .box 24 [.int .i64 s.1, .sl (.pair (.int .i64) (.pair (.int .i64) (.int .i64))) s.2])] ?_
 rcases zI h with ⟨hb2, h⟩ | ⟨hb2, h⟩
 ·refine zB [(1, .sl (.int .i64) trace), (2, .int .i64 most), (3, .bp 3 0), (21, .bool true)] [(3, .box 24 [.int .i64 s.1, .sl (.pair (.int .i64) (.pair (.int .i64) (.int .i64))) s.2])] ?_
  refine AW.cond (b := true) rfl (fun _ => ?_) (fun hb3 => by cases hb3)
  refine zo ?_
  obtain ⟨v0_2, hv4, h⟩ := Option.bind_eq_some_iff.1 h
  refine zC [] [] (hc_lineallaw05_Awake hv4) [(22, .bool v0_2)] [] ?_
  refine zB [(6, .bool v0_2)] [] ?_
  refine zr ?_
  obtain rfl := Option.some.inj h
  exact zR [] [] []
 ·refine zB [(1, .sl (.int .i64) trace), (2, .int .i64 most), (3, .bp 3 0), (21, .bool (decide (1100 < (trace.length : Int))))] [(3, .box 24 [.int .i64 s.1, .sl (.pair (.int .i64) (.pair (.int .i64) (.int .i64))) s.2])] ?_
  refine zQ h (fun hb5 h => ?_) (fun hb5 h => ?_)
  ·refine zo ?_
   obtain ⟨v0_3, hv6, h⟩ := Option.bind_eq_some_iff.1 h
   refine zC [] [] (hc_lineallaw05_Awake hv6) [(22, .bool v0_3)] [] ?_
   refine zB [(6, .bool v0_3)] [] ?_
   refine zr ?_
   obtain rfl := Option.some.inj h
   exact zR [] [] []
  ·refine zk ?_
   refine zo ?_
   refine zS 2 [(1, .sl (.int .i64) trace), (2, .int .i64 most), (3, .bp 3 0), (24, .agg [.int .i64 s.1, .sl (.pair (.int .i64) (.pair (.int .i64) (.int .i64))) s.2]), (25, .sl (.int .i64) trace)] [(3, .box 24 [.int .i64 s.1, .sl (.pair (.int .i64) (.pair (.int .i64) (.int .i64))) s.2])] ?_
   obtain ⟨v0_4, hv7, h⟩ := Option.bind_eq_some_iff.1 h
   refine zC [] [] (hc_refine_IsTrace s trace hv7) [(1, .sl (.int .i64) trace), (2, .int .i64 most), (3, .bp 3 0), (26, .tup [.bool v0_4.1, .int .i64 v0_4.2])] [(3, .box 24 [.int .i64 s.1, .sl (.pair (.int .i64) (.pair (.int .i64) (.int .i64))) s.2])] ?_
   refine zB [(1, .sl (.int .i64) trace), (2, .int .i64 most), (3, .bp 3 0), (7, .bool v0_4.1), (8, .int .i64 v0_4.2)] [(3, .box 24 [.int .i64 s.1, .sl (.pair (.int .i64) (.pair (.int .i64) (.int .i64))) s.2])] ?_
   refine zo ?_
   refine zS 2 [(2, .int .i64 most), (3, .bp 3 0), (7, .bool v0_4.1), (8, .int .i64 v0_4.2), (30, .agg [.int .i64 s.1, .sl (.pair (.int .i64) (.pair (.int .i64) (.int .i64))) s.2]), (31, .sl (.int .i64) trace)] [(3, .box 24 [.int .i64 s.1, .sl (.pair (.int .i64) (.pair (.int .i64) (.int .i64))) s.2])] ?_
   obtain ⟨v0_5, hv8, h⟩ := Option.bind_eq_some_iff.1 h
   refine zC [] [] (hc_linealref05_IsTrace s trace hv8) [(2, .int .i64 most), (3, .bp 3 0), (7, .bool v0_4.1), (8, .int .i64 v0_4.2), (32, .tup [.bool v0_5.1, .int .i64 v0_5.2])] [(3, .box 24 [.int .i64 s.1, .sl (.pair (.int .i64) (.pair (.int .i64) (.int .i64))) s.2])] ?_
   refine zB [(2, .int .i64 most), (3, .bp 3 0), (7, .bool v0_4.1), (8, .int .i64 v0_4.2), (9, .bool v0_5.1), (10, .int .i64 v0_5.2)] [(3, .box 24 [.int .i64 s.1, .sl (.pair (.int .i64) (.pair (.int .i64) (.int .i64))) s.2])] ?_
   refine zo ?_
   refine zS 2 [(2, .int .i64 most), (3, .bp 3 0), (7, .bool v0_4.1), (8, .int .i64 v0_4.2), (9, .bool v0_5.1), (10, .int .i64 v0_5.2), (36, .agg [.int .i64 s.1, .sl (.pair (.int .i64) (.pair (.int .i64) (.int .i64))) s.2]), (37, .int .i64 most)] [(3, .box 24 [.int .i64 s.1, .sl (.pair (.int .i64) (.pair (.int .i64) (.int .i64))) s.2])] ?_
   obtain ⟨v0_6, hv9, h⟩ := Option.bind_eq_some_iff.1 h
   refine zC [] [] (hc_refine_Traces s most hv9) [(2, .int .i64 most), (3, .bp 3 0), (7, .bool v0_4.1), (8, .int .i64 v0_4.2), (9, .bool v0_5.1), (10, .int .i64 v0_5.2), (38, .tup [.own 48000, .int .i64 v0_6.2])] [(3, .box 24 [.int .i64 s.1, .sl (.pair (.int .i64) (.pair (.int .i64) (.int .i64))) s.2]), (48000, .arr 27 (.sl (.int .i64)) v0_6.1)] ?_
   refine zB [(2, .int .i64 most), (3, .bp 3 0), (7, .bool v0_4.1), (8, .int .i64 v0_4.2), (9, .bool v0_5.1), (10, .int .i64 v0_5.2), (11, .own 48000), (12, .int .i64 v0_6.2)] [(3, .box 24 [.int .i64 s.1, .sl (.pair (.int .i64) (.pair (.int .i64) (.int .i64))) s.2]), (48000, .arr 27 (.sl (.int .i64)) v0_6.1)] ?_
   refine zo ?_
   refine zS 2 [(7, .bool v0_4.1), (8, .int .i64 v0_4.2), (9, .bool v0_5.1), (10, .int .i64 v0_5.2), (11, .own 48000), (12, .int .i64 v0_6.2), (42, .agg [.int .i64 s.1, .sl (.pair (.int .i64) (.pair (.int .i64) (.int .i64))) s.2]), (43, .int .i64 most)] [(48000, .arr 27 (.sl (.int .i64)) v0_6.1)] ?_
   obtain ⟨v0_7, hv10, h⟩ := Option.bind_eq_some_iff.1 h
   refine zC [] [] (hc_linealref05_Traces s most hv10) [(7, .bool v0_4.1), (8, .int .i64 v0_4.2), (9, .bool v0_5.1), (10, .int .i64 v0_5.2), (11, .own 48000), (12, .int .i64 v0_6.2), (44, .tup [.own 54000, .int .i64 v0_7.2])] [(48000, .arr 27 (.sl (.int .i64)) v0_6.1), (54000, .arr 27 (.sl (.int .i64)) v0_7.1)] ?_
   refine zB [(7, .bool v0_4.1), (8, .int .i64 v0_4.2), (9, .bool v0_5.1), (10, .int .i64 v0_5.2), (11, .own 48000), (12, .int .i64 v0_6.2), (13, .own 54000), (14, .int .i64 v0_7.2)] [(48000, .arr 27 (.sl (.int .i64)) v0_6.1), (54000, .arr 27 (.sl (.int .i64)) v0_7.1)] ?_
   refine zo ?_
   refine zS 4 [(8, .int .i64 v0_4.2), (10, .int .i64 v0_5.2), (11, .own 48000), (12, .int .i64 v0_6.2), (13, .own 54000), (14, .int .i64 v0_7.2), (50, .bool ((v0_4.1 == v0_5.1) != false))] [(48000, .arr 27 (.sl (.int .i64)) v0_6.1), (54000, .arr 27 (.sl (.int .i64)) v0_7.1)] ?_
   rcases zI h with ⟨hb11, h⟩ | ⟨hb11, h⟩
   ·refine zS 5 [(11, .own 48000), (12, .int .i64 v0_6.2), (13, .own 54000), (14, .int .i64 v0_7.2), (55, .bool (decide (v0_4.2 = v0_5.2)))] [(48000, .arr 27 (.sl (.int .i64)) v0_6.1), (54000, .arr 27 (.sl (.int .i64)) v0_7.1)] ?_
    rcases zI h with ⟨hb12, h⟩ | ⟨hb12, h⟩
    ·refine zS 2 [(12, .int .i64 v0_6.2), (14, .int .i64 v0_7.2), (55, .bool true), (56, .own 48000), (57, .own 54000)] [(48000, .arr 27 (.sl (.int .i64)) v0_6.1), (54000, .arr 27 (.sl (.int .i64)) v0_7.1)] ?_
     obtain ⟨v0_8, hv13, h⟩ := Option.bind_eq_some_iff.1 h
     refine zG [48000, 54000] [] (hc_linealref05_SameLists v0_6.1 v0_7.1 hv13) [(12, .int .i64 v0_6.2), (14, .int .i64 v0_7.2), (55, .bool true), (58, .bool v0_8)] [] ?_
     refine zS 2 [(12, .int .i64 v0_6.2), (14, .int .i64 v0_7.2), (60, .bool v0_8)] [] ?_
     rcases zI h with ⟨hb14, h⟩ | ⟨hb14, h⟩
     ·refine zS 5 [(65, .bool (decide (v0_6.2 = v0_7.2)))] [] ?_
      rcases zI h with ⟨hb15, h⟩ | ⟨hb15, h⟩
      ·refine zT [(65, .bool true)] [] gt ?_
       obtain ⟨v0_9, hv16, h⟩ := Option.bind_eq_some_iff.1 h
       refine zG [] [] (hc_lineallaw05_Awake hv16) [(65, .bool true), (66, .bool v0_9)] [] ?_
       refine zB [(6, .bool v0_9)] [] ?_
       refine AW.ret ?_
       obtain rfl := Option.some.inj h
       exact zR [] [] []
      ·refine zB [(6, .bool false)] [] ?_
       refine AW.ret ?_
       obtain rfl := Option.some.inj h
       exact zR [] [] []
     ·refine zS 5 [(65, .bool false)] [] ?_
      refine zB [(6, .bool false)] [] ?_
      refine AW.ret ?_
      obtain rfl := Option.some.inj h
      exact zR [] [] []
    ·refine zS 5 [(12, .int .i64 v0_6.2), (14, .int .i64 v0_7.2), (60, .bool false)] [] ?_
     refine zS 5 [(65, .bool false)] [] ?_
     refine zB [(6, .bool false)] [] ?_
     refine AW.ret ?_
     obtain rfl := Option.some.inj h
     exact zR [] [] []
   ·refine zS 5 [(11, .own 48000), (12, .int .i64 v0_6.2), (13, .own 54000), (14, .int .i64 v0_7.2), (55, .bool false)] [(48000, .arr 27 (.sl (.int .i64)) v0_6.1), (54000, .arr 27 (.sl (.int .i64)) v0_7.1)] ?_
    refine zS 5 [(12, .int .i64 v0_6.2), (14, .int .i64 v0_7.2), (60, .bool false)] [] ?_
    refine zS 5 [(65, .bool false)] [] ?_
    refine zB [(6, .bool false)] [] ?_
    refine AW.ret ?_
    obtain rfl := Option.some.inj h
    exact zR [] [] []

end Go.Proofs.Ytljonmpcehlpaaa
