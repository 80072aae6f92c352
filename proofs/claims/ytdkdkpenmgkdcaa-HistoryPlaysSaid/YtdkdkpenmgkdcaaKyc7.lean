/-
  Made by wip/tool/dc.py out of the print of the program: contracts.
-/
import Derived.Test.YtdkdkpenmgkdcaaHp
import Derived.Test.YtdkdkpenmgkdcaaTbh
import Derived.Test.YtdkdkpenmgkdcaaAvd
import Derived.Test.YtdkdkpenmgkdcaaKyc5
import Derived.Test.YtdkdkpenmgkdcaaKyc6
namespace Go.Proofs.Ytdkdkpenmgkdcaa
open Go.RowKit

set_option linter.unusedSimpArgs false
set_option linter.unusedVariables false
set_option linter.constructorNameAsVariable false

set_option maxRecDepth 100000 in
set_option maxHeartbeats 2000000 in
theorem hc_linealref02_Play (specs : List (Int × Int × (List (List Int)) × (List (List Int)))) (word : List (Int × Int × Int × Int × Int × Int)) {r : (List (Int × Int × Int × Int × Int × Int)) × Int} (h : linealref02_Play specs word = some r) : HC Try.prog 53 [] [.sl Y0 specs, .sl Y1 word] [(2000, .arr 55 Y1 r.1)] (.tup [.own 2000, .int .i64 r.2]) := by
  unfold linealref02_Play at h
  refine HC.of_body tab_ok (res := [.tmp 4, .tmp 5]) Try.func53 rfl (by kernel_rfl) rfl (nt := 125) rfl (by decide) (by simp) ?_
  refine AW.seq ?_
  refine AW.ops ?_
  refine AO.allF tab_ok (by decide) [(0, .sl Y0 specs), (1, .sl Y1 word)] [] (by (simp only [go_sem]) <;> (repeat' with_reducible apply And.intro) <;> first | assumption | rfl | omega | (unfold maxLen; omega)) ?_
  refine athen_n ?_
  refine AW.seq ?_
  refine AW.seq ?_
  refine AW.ops ?_
  refine AO.segF tab_ok 1 (by decide) [(0, .sl Y0 specs), (1, .sl Y1 word), (11, .sl Y0 specs)] [] (by (simp only [go_sem]) <;> (repeat' with_reducible apply And.intro) <;> first | assumption | rfl | omega | (unfold maxLen; omega)) ?_
  obtain ⟨v0, hv1, h⟩ := Option.bind_eq_some_iff.1 h
  refine AO.call tab_ok (by decide) rfl rfl rfl (fun _ h => h) [] [] (hc_linealref02_areSpecs specs hv1) rfl (by (simp only [go_sem]) <;> (repeat' with_reducible apply And.intro) <;> first | assumption | rfl | omega | (unfold maxLen; omega)) (by (simp only [go_sem]) <;> (repeat' with_reducible apply And.intro) <;> first | assumption | rfl | omega | (unfold maxLen; omega)) [(0, .sl Y0 specs), (1, .sl Y1 word), (12, .bool v0)] [] (by (simp only [go_sem]) <;> (repeat' with_reducible apply And.intro) <;> first | assumption | rfl | omega | (unfold maxLen; omega)) ?_
  refine AO.allF tab_ok (by decide) [(0, .sl Y0 specs), (1, .sl Y1 word), (13, .bool (!v0))] [] (by (simp only [go_sem]) <;> (repeat' with_reducible apply And.intro) <;> first | assumption | rfl | omega | (unfold maxLen; omega)) ?_
  refine athen_n ?_
  refine AW.cond (b := (!v0)) rfl (fun hb2 => ?_) (fun hb2 => ?_)
  · rw [if_pos hb2] at h
    refine AW.seq ?_
    refine AW.ops ?_
    refine AO.allF tab_ok (by decide) [(4, .cv (.slice none 0 0)), (5, .int .i64 10)] [] (by (simp only [go_sem, hb2]) <;> (repeat' with_reducible apply And.intro) <;> first | assumption | rfl | omega | (unfold maxLen; omega)) ?_
    refine athen_n ?_
    refine AW.ret ?_
    refine athen_r ?_
    obtain rfl := Option.some.inj h
    exact ⟨rfl, [], [2000], [], rfl, (by (simp only [go_sem, hb2]) <;> (repeat' with_reducible apply And.intro) <;> first | assumption | rfl | omega | (unfold maxLen; omega))⟩
  · rw [if_neg (Bool.eq_false_iff.1 hb2)] at h
    refine AW.skip ?_
    refine athen_n ?_
    refine AW.seq ?_
    refine AW.seq ?_
    refine AW.ops ?_
    refine AO.allF tab_ok (by decide) [(0, .sl Y0 specs), (1, .sl Y1 word), (16, .bool (decide (8 < (word.length : Int))))] [] (by (simp only [go_sem, hb2]) <;> (repeat' with_reducible apply And.intro) <;> first | assumption | rfl | omega | (unfold maxLen; omega)) ?_
    refine athen_n ?_
    refine AW.cond (b := (decide (8 < (word.length : Int)))) rfl (fun hb3 => ?_) (fun hb3 => ?_)
    · rw [if_pos hb3] at h
      refine AW.seq ?_
      refine AW.ops ?_
      refine AO.allF tab_ok (by decide) [(4, .cv (.slice none 0 0)), (5, .int .i64 20)] [] (by (simp only [go_sem, hb2, hb3]) <;> (repeat' with_reducible apply And.intro) <;> first | assumption | rfl | omega | (unfold maxLen; omega)) ?_
      refine athen_n ?_
      refine AW.ret ?_
      refine athen_r ?_
      obtain rfl := Option.some.inj h
      exact ⟨rfl, [], [2000], [], rfl, (by (simp only [go_sem, hb2, hb3]) <;> (repeat' with_reducible apply And.intro) <;> first | assumption | rfl | omega | (unfold maxLen; omega))⟩
    · rw [if_neg (Bool.eq_false_iff.1 hb3)] at h
      refine AW.skip ?_
      refine athen_n ?_
      refine AW.seq ?_
      refine AW.ops ?_
      obtain ⟨c4, h⟩ := ck_some.1 h
      refine AO.allF tab_ok (by decide) [(0, .sl Y0 specs), (1, .sl Y1 word), (6, .own 19)] [(19, .arr 3 (.int .i64) (List.replicate specs.length (0 : Int)))] (by (simp only [go_sem, hb2, hb3]) <;> (repeat' with_reducible apply And.intro) <;> first | assumption | rfl | omega | (unfold maxLen; omega)) ?_
      refine athen_n ?_
      refine AW.seq ?_
      refine AW.ops ?_
      refine AO.allF tab_ok (by decide) [(0, .sl Y0 specs), (1, .sl Y1 word), (6, .own 19), (7, .cv (.slice none 0 0))] [(19, .arr 3 (.int .i64) (List.replicate specs.length (0 : Int)))] (by (simp only [go_sem, hb2, hb3]) <;> (repeat' with_reducible apply And.intro) <;> first | assumption | rfl | omega | (unfold maxLen; omega)) ?_
      refine athen_n ?_
      refine AW.have1 (fun b1 : (List (Int × Int × Int × Int × Int × Int)) => linealref02_Play_k1 b1 = some r) (fun b1 => ⟨fr [(7, .own 123)], hpGet [(123, .arr 55 Y1 b1)], gt⟩) (fun b1 h => ?_) (fun hk_linealref02_Play_k1 => ?_)
      · unfold linealref02_Play_k1 at h
        refine AW.seq ?_
        refine AW.ops ?_
        refine AO.allF tab_ok (by decide) [(4, .own 123), (5, .int .i64 0)] [(123, .arr 55 Y1 b1)] (by (simp only [go_sem, hb2, hb3]) <;> (repeat' with_reducible apply And.intro) <;> first | assumption | rfl | omega | (unfold maxLen; omega)) ?_
        refine athen_n ?_
        refine AW.ret ?_
        obtain rfl := Option.some.inj h
        exact ⟨rfl, [], [], [(2000, 123)], rfl, (by (simp only [go_sem, hb2, hb3]) <;> (repeat' with_reducible apply And.intro) <;> first | assumption | rfl | omega | (unfold maxLen; omega))⟩
      · refine AW.seq ?_
        refine AW.seq ?_
        refine AW.ops ?_
        refine AO.allF tab_ok (by decide) [(0, .sl Y0 specs), (1, .sl Y1 word), (6, .own 19), (7, .cv (.slice none 0 0)), (8, .int .i64 0)] [(19, .arr 3 (.int .i64) (List.replicate specs.length (0 : Int)))] (by (simp only [go_sem, hb2, hb3]) <;> (repeat' with_reducible apply And.intro) <;> first | assumption | rfl | omega | (unfold maxLen; omega)) ?_
        refine athen_n ?_
        refine AW.block ?_
        obtain ⟨rv9, hw5, ho6⟩ := Option.bind_eq_some_iff.1 h
        refine AW.loopO (linealref02_Play_b1 specs word) (fun st1 => ⟨fr [(0, .sl Y0 specs), (1, .sl Y1 word), (6, .own 19), (7, .own 123), (8, .int .i64 st1.2.2)], hpGet [(19, .arr 3 (.int .i64) st1.1), (123, .arr 55 Y1 st1.2.1)], gt⟩) ((List.replicate specs.length (0 : Int)), [], 0) hw5 (Wk.le [] [123] [] rfl (by (simp only [go_sem, hb2, hb3]) <;> (repeat' with_reducible apply And.intro) <;> first | assumption | rfl | omega | (unfold maxLen; omega)) (by (simp only [go_sem, hb2, hb3]) <;> (repeat' with_reducible apply And.intro) <;> first | assumption | rfl | omega | (unfold maxLen; omega))) ?_
        intro st1 x8 h hd7
        unfold linealref02_Play_b1 at h
        refine AW.seq ?_
        refine AW.seq ?_
        refine AW.ops ?_
        refine AO.allF tab_ok (by decide) [(0, .sl Y0 specs), (1, .sl Y1 word), (6, .own 19), (7, .own 123), (8, .int .i64 st1.2.2), (23, .bool (decide (st1.2.2 < (word.length : Int))))] [(19, .arr 3 (.int .i64) st1.1), (123, .arr 55 Y1 st1.2.1)] (by (simp only [go_sem, hb2, hb3]) <;> (repeat' with_reducible apply And.intro) <;> first | assumption | rfl | omega | (unfold maxLen; omega)) ?_
        refine athen_n ?_
        refine AW.cond (b := (decide (st1.2.2 < (word.length : Int)))) rfl (fun hb10 => ?_) (fun hb10 => ?_)
        · rw [if_pos hb10] at h
          refine AW.skip ?_
          refine athen_n ?_
          refine AW.seq ?_
          refine AW.block ?_
          refine AW.seq ?_
          refine AW.ops ?_
          obtain ⟨c11, h⟩ := ck_some.1 h
          obtain ⟨c12, h⟩ := ck_some.1 h
          refine AO.allF tab_ok (by decide) [(0, .sl Y0 specs), (1, .sl Y1 word), (6, .own 19), (7, .own 123), (8, .int .i64 st1.2.2), (9, .bp 9 0)] [(9, .box 55 [.int .i64 (word.getD st1.2.2.toNat (0, 0, 0, 0, 0, 0)).1, .int .i64 (word.getD st1.2.2.toNat (0, 0, 0, 0, 0, 0)).2.1, .int .i64 (word.getD st1.2.2.toNat (0, 0, 0, 0, 0, 0)).2.2.1, .int .i64 (word.getD st1.2.2.toNat (0, 0, 0, 0, 0, 0)).2.2.2.1, .int .i64 (word.getD st1.2.2.toNat (0, 0, 0, 0, 0, 0)).2.2.2.2.1, .int .i64 (word.getD st1.2.2.toNat (0, 0, 0, 0, 0, 0)).2.2.2.2.2]), (19, .arr 3 (.int .i64) st1.1), (123, .arr 55 Y1 st1.2.1)] (by (simp only [go_sem, hb2, hb3, hb10]) <;> (repeat' with_reducible apply And.intro) <;> first | assumption | rfl | omega | (unfold maxLen; omega)) ?_
          refine athen_n ?_
          refine AW.seq ?_
          refine AW.seq ?_
          refine AW.draw tab_ok mixed_ok [] [] (by decide) (lex_fast (by kernel_rfl)) ?_
          refine adops_cut 2 (fun K' hK13 => ?_)
          try dsimp only [List.drop_succ_cons, List.drop_zero, List.take_succ_cons, List.take_zero]
          simp only [go_sem, hb2, hb3, hb10]
          repeat (with_reducible refine And.intro (by first | assumption | rfl | omega | trivial | (unfold maxLen; omega)) ?_)
          refine hK13 _ ?_
          obtain ⟨v0_2, hv14, h⟩ := Option.bind_eq_some_iff.1 h
          refine adops.call (by first | trivial | rfl) rfl rfl rfl (fun _ h => h) [] [] (hc_linealref02_within 0 (word.getD st1.2.2.toNat (0, 0, 0, 0, 0, 0)).1 3 hv14) rfl (by (simp only [go_sem, hb2, hb3, hb10]) <;> (repeat' with_reducible apply And.intro) <;> first | assumption | rfl | omega | (unfold maxLen; omega)) (by (simp only [go_sem, hb2, hb3, hb10]) <;> (repeat' with_reducible apply And.intro) <;> first | assumption | rfl | omega | (unfold maxLen; omega)) rfl ?_
          refine adops_cut 2 (fun K' hK15 => ?_)
          try dsimp only [List.drop_succ_cons, List.drop_zero, List.take_succ_cons, List.take_zero]
          simp only [go_sem, hb2, hb3, hb10]
          repeat (with_reducible refine And.intro (by first | assumption | rfl | omega | trivial | (unfold maxLen; omega)) ?_)
          refine hK15 _ ?_
          rcases Bool.eq_false_or_eq_true (!v0_2) with hb16 | hb16
          · rw [if_pos hb16] at h
            simp only [hb16]
            refine adops_cut 4 (fun K' hK17 => ?_)
            try dsimp only [List.drop_succ_cons, List.drop_zero, List.take_succ_cons, List.take_zero]
            simp only [go_sem, hb2, hb3, hb10, hb16]
            repeat (with_reducible refine And.intro (by first | assumption | rfl | omega | trivial | (unfold maxLen; omega)) ?_)
            refine hK17 _ ?_
            refine adops_cut 6 (fun K' hK18 => ?_)
            try dsimp only [List.drop_succ_cons, List.drop_zero, List.take_succ_cons, List.take_zero]
            simp only [go_sem, hb2, hb3, hb10, hb16]
            repeat (with_reducible refine And.intro (by first | assumption | rfl | omega | trivial | (unfold maxLen; omega)) ?_)
            refine hK18 _ ?_
            refine adops_cut 4 (fun K' hK19 => ?_)
            try dsimp only [List.drop_succ_cons, List.drop_zero, List.take_succ_cons, List.take_zero]
            simp only [go_sem, hb2, hb3, hb10, hb16]
            repeat (with_reducible refine And.intro (by first | assumption | rfl | omega | trivial | (unfold maxLen; omega)) ?_)
            refine hK19 _ ?_
            refine adops_cut 4 (fun K' hK20 => ?_)
            try dsimp only [List.drop_succ_cons, List.drop_zero, List.take_succ_cons, List.take_zero]
            simp only [go_sem, hb2, hb3, hb10, hb16]
            repeat (with_reducible refine And.intro (by first | assumption | rfl | omega | trivial | (unfold maxLen; omega)) ?_)
            refine hK20 _ ?_
            refine adops_cut 4 (fun K' hK21 => ?_)
            try dsimp only [List.drop_succ_cons, List.drop_zero, List.take_succ_cons, List.take_zero]
            simp only [go_sem, hb2, hb3, hb10, hb16]
            repeat (with_reducible refine And.intro (by first | assumption | rfl | omega | trivial | (unfold maxLen; omega)) ?_)
            refine hK21 _ ?_
            refine adops_cut 6 (fun K' hK22 => ?_)
            try dsimp only [List.drop_succ_cons, List.drop_zero, List.take_succ_cons, List.take_zero]
            simp only [go_sem, hb2, hb3, hb10, hb16]
            repeat (with_reducible refine And.intro (by first | assumption | rfl | omega | trivial | (unfold maxLen; omega)) ?_)
            refine hK22 _ ?_
            refine adops_cut 6 (fun K' hK23 => ?_)
            try dsimp only [List.drop_succ_cons, List.drop_zero, List.take_succ_cons, List.take_zero]
            simp only [go_sem, hb2, hb3, hb10, hb16]
            repeat (with_reducible refine And.intro (by first | assumption | rfl | omega | trivial | (unfold maxLen; omega)) ?_)
            refine hK23 _ ?_
            refine adops_cut 6 (fun K' hK24 => ?_)
            try dsimp only [List.drop_succ_cons, List.drop_zero, List.take_succ_cons, List.take_zero]
            simp only [go_sem, hb2, hb3, hb10, hb16]
            repeat (with_reducible refine And.intro (by first | assumption | rfl | omega | trivial | (unfold maxLen; omega)) ?_)
            refine hK24 _ ?_
            refine adops_cut 1 (fun K' hK25 => ?_)
            try dsimp only [List.drop_succ_cons, List.drop_zero, List.take_succ_cons, List.take_zero]
            simp only [go_sem, hb2, hb3, hb10, hb16]
            repeat (with_reducible refine And.intro (by first | assumption | rfl | omega | trivial | (unfold maxLen; omega)) ?_)
            refine hK25 _ ?_
            refine adops_nil ?_
            refine athen_n ?_
            refine AW.weaken (s' := ⟨fr [(0, .sl Y0 specs), (1, .sl Y1 word), (6, .own 19), (7, .own 123), (8, .int .i64 st1.2.2), (9, .bp 9 0), (75, .bool true)], hpGet [(9, .box 55 [.int .i64 (word.getD st1.2.2.toNat (0, 0, 0, 0, 0, 0)).1, .int .i64 (word.getD st1.2.2.toNat (0, 0, 0, 0, 0, 0)).2.1, .int .i64 (word.getD st1.2.2.toNat (0, 0, 0, 0, 0, 0)).2.2.1, .int .i64 (word.getD st1.2.2.toNat (0, 0, 0, 0, 0, 0)).2.2.2.1, .int .i64 (word.getD st1.2.2.toNat (0, 0, 0, 0, 0, 0)).2.2.2.2.1, .int .i64 (word.getD st1.2.2.toNat (0, 0, 0, 0, 0, 0)).2.2.2.2.2]), (19, .arr 3 (.int .i64) st1.1), (123, .arr 55 Y1 st1.2.1)], gt⟩) (Wk.to (by (simp only [go_sem, hb2, hb3, hb10, hb16]) <;> (repeat' with_reducible apply And.intro) <;> first | assumption | rfl | omega | (unfold maxLen; omega))) ?_
            refine AW.cond (b := true) rfl (fun _ => ?_) (fun hb26 => by cases hb26)
            refine AW.seq ?_
            refine AW.ops ?_
            refine AO.allF tab_ok (by decide) [(4, .cv (.slice none 0 0)), (5, .int .i64 20)] [] (by (simp only [go_sem, hb2, hb3, hb10, hb16]) <;> (repeat' with_reducible apply And.intro) <;> first | assumption | rfl | omega | (unfold maxLen; omega)) ?_
            refine athen_n ?_
            refine AW.ret ?_
            refine athen_r ?_
            refine ablock_r ?_
            refine athen_r ?_
            obtain rfl := Option.some.inj h
            rw [← hd7 _ rfl] at ho6
            have h := ho6
            try simp only at h
            refine athen_r ?_
            refine ablock_r ?_
            refine athen_r ?_
            obtain rfl := Option.some.inj h
            exact ⟨rfl, [], [2000], [], rfl, (by (simp only [go_sem, hb2, hb3, hb10, hb16]) <;> (repeat' with_reducible apply And.intro) <;> first | assumption | rfl | omega | (unfold maxLen; omega))⟩
          · rw [if_neg (Bool.eq_false_iff.1 hb16)] at h
            simp only [hb16]
            obtain ⟨c28, h⟩ := ck_some.1 h
            refine adops_cut 5 (fun K' hK27 => ?_)
            try dsimp only [List.drop_succ_cons, List.drop_zero, List.take_succ_cons, List.take_zero]
            simp only [go_sem, hb2, hb3, hb10, hb16]
            repeat (with_reducible refine And.intro (by first | assumption | rfl | omega | trivial | (unfold maxLen; omega)) ?_)
            refine hK27 _ ?_
            obtain ⟨v0_3, hv29, h⟩ := Option.bind_eq_some_iff.1 h
            refine adops.call (by first | trivial | rfl) rfl rfl rfl (fun _ h => ⟨fun _ => h, fun hn => absurd rfl hn⟩) [] [] (hc_linealref02_within 0 (word.getD st1.2.2.toNat (0, 0, 0, 0, 0, 0)).2.1 ((specs.length : Int) - 1) hv29) rfl (by (simp only [go_sem, hb2, hb3, hb10, hb16]) <;> (repeat' with_reducible apply And.intro) <;> first | assumption | rfl | omega | (unfold maxLen; omega)) (by (simp only [go_sem, hb2, hb3, hb10, hb16]) <;> (repeat' with_reducible apply And.intro) <;> first | assumption | rfl | omega | (unfold maxLen; omega)) rfl ?_
            refine adops_cut 3 (fun K' hK30 => ?_)
            try dsimp only [List.drop_succ_cons, List.drop_zero, List.take_succ_cons, List.take_zero]
            simp only [go_sem, hb2, hb3, hb10, hb16]
            repeat (with_reducible refine And.intro (by first | assumption | rfl | omega | trivial | (unfold maxLen; omega)) ?_)
            refine hK30 _ ?_
            rcases Bool.eq_false_or_eq_true (!v0_3) with hb31 | hb31
            · rw [if_pos hb31] at h
              simp only [hb31]
              refine adops_cut 4 (fun K' hK32 => ?_)
              try dsimp only [List.drop_succ_cons, List.drop_zero, List.take_succ_cons, List.take_zero]
              simp only [go_sem, hb2, hb3, hb10, hb16, hb31]
              repeat (with_reducible refine And.intro (by first | assumption | rfl | omega | trivial | (unfold maxLen; omega)) ?_)
              refine hK32 _ ?_
              refine adops_cut 4 (fun K' hK33 => ?_)
              try dsimp only [List.drop_succ_cons, List.drop_zero, List.take_succ_cons, List.take_zero]
              simp only [go_sem, hb2, hb3, hb10, hb16, hb31]
              repeat (with_reducible refine And.intro (by first | assumption | rfl | omega | trivial | (unfold maxLen; omega)) ?_)
              refine hK33 _ ?_
              refine adops_cut 4 (fun K' hK34 => ?_)
              try dsimp only [List.drop_succ_cons, List.drop_zero, List.take_succ_cons, List.take_zero]
              simp only [go_sem, hb2, hb3, hb10, hb16, hb31]
              repeat (with_reducible refine And.intro (by first | assumption | rfl | omega | trivial | (unfold maxLen; omega)) ?_)
              refine hK34 _ ?_
              refine adops_cut 4 (fun K' hK35 => ?_)
              try dsimp only [List.drop_succ_cons, List.drop_zero, List.take_succ_cons, List.take_zero]
              simp only [go_sem, hb2, hb3, hb10, hb16, hb31]
              repeat (with_reducible refine And.intro (by first | assumption | rfl | omega | trivial | (unfold maxLen; omega)) ?_)
              refine hK35 _ ?_
              refine adops_cut 6 (fun K' hK36 => ?_)
              try dsimp only [List.drop_succ_cons, List.drop_zero, List.take_succ_cons, List.take_zero]
              simp only [go_sem, hb2, hb3, hb10, hb16, hb31]
              repeat (with_reducible refine And.intro (by first | assumption | rfl | omega | trivial | (unfold maxLen; omega)) ?_)
              refine hK36 _ ?_
              refine adops_cut 6 (fun K' hK37 => ?_)
              try dsimp only [List.drop_succ_cons, List.drop_zero, List.take_succ_cons, List.take_zero]
              simp only [go_sem, hb2, hb3, hb10, hb16, hb31]
              repeat (with_reducible refine And.intro (by first | assumption | rfl | omega | trivial | (unfold maxLen; omega)) ?_)
              refine hK37 _ ?_
              refine adops_cut 4 (fun K' hK38 => ?_)
              try dsimp only [List.drop_succ_cons, List.drop_zero, List.take_succ_cons, List.take_zero]
              simp only [go_sem, hb2, hb3, hb10, hb16, hb31]
              repeat (with_reducible refine And.intro (by first | assumption | rfl | omega | trivial | (unfold maxLen; omega)) ?_)
              refine hK38 _ ?_
              refine adops_nil ?_
              refine athen_n ?_
              refine AW.weaken (s' := ⟨fr [(0, .sl Y0 specs), (1, .sl Y1 word), (6, .own 19), (7, .own 123), (8, .int .i64 st1.2.2), (9, .bp 9 0), (75, .bool true)], hpGet [(9, .box 55 [.int .i64 (word.getD st1.2.2.toNat (0, 0, 0, 0, 0, 0)).1, .int .i64 (word.getD st1.2.2.toNat (0, 0, 0, 0, 0, 0)).2.1, .int .i64 (word.getD st1.2.2.toNat (0, 0, 0, 0, 0, 0)).2.2.1, .int .i64 (word.getD st1.2.2.toNat (0, 0, 0, 0, 0, 0)).2.2.2.1, .int .i64 (word.getD st1.2.2.toNat (0, 0, 0, 0, 0, 0)).2.2.2.2.1, .int .i64 (word.getD st1.2.2.toNat (0, 0, 0, 0, 0, 0)).2.2.2.2.2]), (19, .arr 3 (.int .i64) st1.1), (123, .arr 55 Y1 st1.2.1)], gt⟩) (Wk.to (by (simp only [go_sem, hb2, hb3, hb10, hb16, hb31]) <;> (repeat' with_reducible apply And.intro) <;> first | assumption | rfl | omega | (unfold maxLen; omega))) ?_
              refine AW.cond (b := true) rfl (fun _ => ?_) (fun hb39 => by cases hb39)
              refine AW.seq ?_
              refine AW.ops ?_
              refine AO.allF tab_ok (by decide) [(4, .cv (.slice none 0 0)), (5, .int .i64 20)] [] (by (simp only [go_sem, hb2, hb3, hb10, hb16, hb31]) <;> (repeat' with_reducible apply And.intro) <;> first | assumption | rfl | omega | (unfold maxLen; omega)) ?_
              refine athen_n ?_
              refine AW.ret ?_
              refine athen_r ?_
              refine ablock_r ?_
              refine athen_r ?_
              obtain rfl := Option.some.inj h
              rw [← hd7 _ rfl] at ho6
              have h := ho6
              try simp only at h
              refine athen_r ?_
              refine ablock_r ?_
              refine athen_r ?_
              obtain rfl := Option.some.inj h
              exact ⟨rfl, [], [2000], [], rfl, (by (simp only [go_sem, hb2, hb3, hb10, hb16, hb31]) <;> (repeat' with_reducible apply And.intro) <;> first | assumption | rfl | omega | (unfold maxLen; omega))⟩
            · rw [if_neg (Bool.eq_false_iff.1 hb31)] at h
              simp only [hb31]
              refine adops_cut 6 (fun K' hK40 => ?_)
              try dsimp only [List.drop_succ_cons, List.drop_zero, List.take_succ_cons, List.take_zero]
              simp only [go_sem, hb2, hb3, hb10, hb16, hb31]
              repeat (with_reducible refine And.intro (by first | assumption | rfl | omega | trivial | (unfold maxLen; omega)) ?_)
              refine hK40 _ ?_
              obtain ⟨c42, h⟩ := ck_some.1 h
              obtain ⟨c43, h⟩ := ck_some.1 h
              obtain ⟨c44, h⟩ := ck_some.1 h
              refine adops_cut 6 (fun K' hK41 => ?_)
              try dsimp only [List.drop_succ_cons, List.drop_zero, List.take_succ_cons, List.take_zero]
              simp only [go_sem, hb2, hb3, hb10, hb16, hb31]
              repeat (with_reducible refine And.intro (by first | assumption | rfl | omega | trivial | (unfold maxLen; omega)) ?_)
              refine hK41 _ ?_
              obtain ⟨c46, h⟩ := ck_some.1 h
              refine adops_cut 2 (fun K' hK45 => ?_)
              try dsimp only [List.drop_succ_cons, List.drop_zero, List.take_succ_cons, List.take_zero]
              simp only [go_sem, hb2, hb3, hb10, hb16, hb31]
              repeat (with_reducible refine And.intro (by first | assumption | rfl | omega | trivial | (unfold maxLen; omega)) ?_)
              refine hK45 _ ?_
              obtain ⟨v0_4, hv47, h⟩ := Option.bind_eq_some_iff.1 h
              refine adops.call (by first | trivial | rfl) rfl rfl rfl (fun _ h => ⟨fun _ => h, fun hn => absurd rfl hn⟩) [] [] (hc_linealref02_within 0 (word.getD st1.2.2.toNat (0, 0, 0, 0, 0, 0)).2.2.1 ((specs.getD (max (min (word.getD st1.2.2.toNat (0, 0, 0, 0, 0, 0)).2.1 ((specs.length : Int) - 1)) 0).toNat (0, 0, [], [])).2.1 - 1) hv47) rfl (by (simp only [go_sem, hb2, hb3, hb10, hb16, hb31]) <;> (repeat' with_reducible apply And.intro) <;> first | assumption | rfl | omega | (unfold maxLen; omega)) (by (simp only [go_sem, hb2, hb3, hb10, hb16, hb31]) <;> (repeat' with_reducible apply And.intro) <;> first | assumption | rfl | omega | (unfold maxLen; omega)) rfl ?_
              refine adops_cut 3 (fun K' hK48 => ?_)
              try dsimp only [List.drop_succ_cons, List.drop_zero, List.take_succ_cons, List.take_zero]
              simp only [go_sem, hb2, hb3, hb10, hb16, hb31]
              repeat (with_reducible refine And.intro (by first | assumption | rfl | omega | trivial | (unfold maxLen; omega)) ?_)
              refine hK48 _ ?_
              rcases Bool.eq_false_or_eq_true (!v0_4) with hb49 | hb49
              · rw [if_pos hb49] at h
                simp only [hb49]
                refine adops_cut 6 (fun K' hK50 => ?_)
                try dsimp only [List.drop_succ_cons, List.drop_zero, List.take_succ_cons, List.take_zero]
                simp only [go_sem, hb2, hb3, hb10, hb16, hb31, hb49]
                repeat (with_reducible refine And.intro (by first | assumption | rfl | omega | trivial | (unfold maxLen; omega)) ?_)
                refine hK50 _ ?_
                refine adops_cut 6 (fun K' hK51 => ?_)
                try dsimp only [List.drop_succ_cons, List.drop_zero, List.take_succ_cons, List.take_zero]
                simp only [go_sem, hb2, hb3, hb10, hb16, hb31, hb49]
                repeat (with_reducible refine And.intro (by first | assumption | rfl | omega | trivial | (unfold maxLen; omega)) ?_)
                refine hK51 _ ?_
                refine adops_cut 2 (fun K' hK52 => ?_)
                try dsimp only [List.drop_succ_cons, List.drop_zero, List.take_succ_cons, List.take_zero]
                simp only [go_sem, hb2, hb3, hb10, hb16, hb31, hb49]
                repeat (with_reducible refine And.intro (by first | assumption | rfl | omega | trivial | (unfold maxLen; omega)) ?_)
                refine hK52 _ ?_
                refine adops_nil ?_
                refine athen_n ?_
                refine AW.weaken (s' := ⟨fr [(0, .sl Y0 specs), (1, .sl Y1 word), (6, .own 19), (7, .own 123), (8, .int .i64 st1.2.2), (9, .bp 9 0), (75, .bool true)], hpGet [(9, .box 55 [.int .i64 (word.getD st1.2.2.toNat (0, 0, 0, 0, 0, 0)).1, .int .i64 (word.getD st1.2.2.toNat (0, 0, 0, 0, 0, 0)).2.1, .int .i64 (word.getD st1.2.2.toNat (0, 0, 0, 0, 0, 0)).2.2.1, .int .i64 (word.getD st1.2.2.toNat (0, 0, 0, 0, 0, 0)).2.2.2.1, .int .i64 (word.getD st1.2.2.toNat (0, 0, 0, 0, 0, 0)).2.2.2.2.1, .int .i64 (word.getD st1.2.2.toNat (0, 0, 0, 0, 0, 0)).2.2.2.2.2]), (19, .arr 3 (.int .i64) st1.1), (123, .arr 55 Y1 st1.2.1)], gt⟩) (Wk.to (by (simp only [go_sem, hb2, hb3, hb10, hb16, hb31, hb49]) <;> (repeat' with_reducible apply And.intro) <;> first | assumption | rfl | omega | (unfold maxLen; omega))) ?_
                refine AW.cond (b := true) rfl (fun _ => ?_) (fun hb53 => by cases hb53)
                refine AW.seq ?_
                refine AW.ops ?_
                refine AO.allF tab_ok (by decide) [(4, .cv (.slice none 0 0)), (5, .int .i64 20)] [] (by (simp only [go_sem, hb2, hb3, hb10, hb16, hb31, hb49]) <;> (repeat' with_reducible apply And.intro) <;> first | assumption | rfl | omega | (unfold maxLen; omega)) ?_
                refine athen_n ?_
                refine AW.ret ?_
                refine athen_r ?_
                refine ablock_r ?_
                refine athen_r ?_
                obtain rfl := Option.some.inj h
                rw [← hd7 _ rfl] at ho6
                have h := ho6
                try simp only at h
                refine athen_r ?_
                refine ablock_r ?_
                refine athen_r ?_
                obtain rfl := Option.some.inj h
                exact ⟨rfl, [], [2000], [], rfl, (by (simp only [go_sem, hb2, hb3, hb10, hb16, hb31, hb49]) <;> (repeat' with_reducible apply And.intro) <;> first | assumption | rfl | omega | (unfold maxLen; omega))⟩
              · rw [if_neg (Bool.eq_false_iff.1 hb49)] at h
                simp only [hb49]
                refine adops_cut 5 (fun K' hK54 => ?_)
                try dsimp only [List.drop_succ_cons, List.drop_zero, List.take_succ_cons, List.take_zero]
                simp only [go_sem, hb2, hb3, hb10, hb16, hb31, hb49]
                repeat (with_reducible refine And.intro (by first | assumption | rfl | omega | trivial | (unfold maxLen; omega)) ?_)
                refine hK54 _ ?_
                rcases Bool.eq_false_or_eq_true (!(decide ((word.getD st1.2.2.toNat (0, 0, 0, 0, 0, 0)).2.2.2.1 = 0))) with hb55 | hb55
                · rw [if_pos hb55] at h
                  simp only [hb55]
                  refine adops_cut 6 (fun K' hK56 => ?_)
                  try dsimp only [List.drop_succ_cons, List.drop_zero, List.take_succ_cons, List.take_zero]
                  simp only [go_sem, hb2, hb3, hb10, hb16, hb31, hb49, hb55]
                  repeat (with_reducible refine And.intro (by first | assumption | rfl | omega | trivial | (unfold maxLen; omega)) ?_)
                  refine hK56 _ ?_
                  refine adops_cut 3 (fun K' hK57 => ?_)
                  try dsimp only [List.drop_succ_cons, List.drop_zero, List.take_succ_cons, List.take_zero]
                  simp only [go_sem, hb2, hb3, hb10, hb16, hb31, hb49, hb55]
                  repeat (with_reducible refine And.intro (by first | assumption | rfl | omega | trivial | (unfold maxLen; omega)) ?_)
                  refine hK57 _ ?_
                  refine adops_nil ?_
                  refine athen_n ?_
                  refine AW.weaken (s' := ⟨fr [(0, .sl Y0 specs), (1, .sl Y1 word), (6, .own 19), (7, .own 123), (8, .int .i64 st1.2.2), (9, .bp 9 0), (75, .bool true)], hpGet [(9, .box 55 [.int .i64 (word.getD st1.2.2.toNat (0, 0, 0, 0, 0, 0)).1, .int .i64 (word.getD st1.2.2.toNat (0, 0, 0, 0, 0, 0)).2.1, .int .i64 (word.getD st1.2.2.toNat (0, 0, 0, 0, 0, 0)).2.2.1, .int .i64 (word.getD st1.2.2.toNat (0, 0, 0, 0, 0, 0)).2.2.2.1, .int .i64 (word.getD st1.2.2.toNat (0, 0, 0, 0, 0, 0)).2.2.2.2.1, .int .i64 (word.getD st1.2.2.toNat (0, 0, 0, 0, 0, 0)).2.2.2.2.2]), (19, .arr 3 (.int .i64) st1.1), (123, .arr 55 Y1 st1.2.1)], gt⟩) (Wk.to (by (simp only [go_sem, hb2, hb3, hb10, hb16, hb31, hb49, hb55]) <;> (repeat' with_reducible apply And.intro) <;> first | assumption | rfl | omega | (unfold maxLen; omega))) ?_
                  refine AW.cond (b := true) rfl (fun _ => ?_) (fun hb58 => by cases hb58)
                  refine AW.seq ?_
                  refine AW.ops ?_
                  refine AO.allF tab_ok (by decide) [(4, .cv (.slice none 0 0)), (5, .int .i64 20)] [] (by (simp only [go_sem, hb2, hb3, hb10, hb16, hb31, hb49, hb55]) <;> (repeat' with_reducible apply And.intro) <;> first | assumption | rfl | omega | (unfold maxLen; omega)) ?_
                  refine athen_n ?_
                  refine AW.ret ?_
                  refine athen_r ?_
                  refine ablock_r ?_
                  refine athen_r ?_
                  obtain rfl := Option.some.inj h
                  rw [← hd7 _ rfl] at ho6
                  have h := ho6
                  try simp only at h
                  refine athen_r ?_
                  refine ablock_r ?_
                  refine athen_r ?_
                  obtain rfl := Option.some.inj h
                  exact ⟨rfl, [], [2000], [], rfl, (by (simp only [go_sem, hb2, hb3, hb10, hb16, hb31, hb49, hb55]) <;> (repeat' with_reducible apply And.intro) <;> first | assumption | rfl | omega | (unfold maxLen; omega))⟩
                · rw [if_neg (Bool.eq_false_iff.1 hb55)] at h
                  simp only [hb55]
                  refine adops_cut 5 (fun K' hK59 => ?_)
                  try dsimp only [List.drop_succ_cons, List.drop_zero, List.take_succ_cons, List.take_zero]
                  simp only [go_sem, hb2, hb3, hb10, hb16, hb31, hb49, hb55]
                  repeat (with_reducible refine And.intro (by first | assumption | rfl | omega | trivial | (unfold maxLen; omega)) ?_)
                  refine hK59 _ ?_
                  rcases Bool.eq_false_or_eq_true (!(decide ((word.getD st1.2.2.toNat (0, 0, 0, 0, 0, 0)).2.2.2.2.1 = 0))) with hb60 | hb60
                  · rw [if_pos hb60] at h
                    simp only [hb60]
                    refine adops_cut 4 (fun K' hK61 => ?_)
                    try dsimp only [List.drop_succ_cons, List.drop_zero, List.take_succ_cons, List.take_zero]
                    simp only [go_sem, hb2, hb3, hb10, hb16, hb31, hb49, hb55, hb60]
                    repeat (with_reducible refine And.intro (by first | assumption | rfl | omega | trivial | (unfold maxLen; omega)) ?_)
                    refine hK61 _ ?_
                    refine adops_nil ?_
                    refine athen_n ?_
                    refine AW.weaken (s' := ⟨fr [(0, .sl Y0 specs), (1, .sl Y1 word), (6, .own 19), (7, .own 123), (8, .int .i64 st1.2.2), (9, .bp 9 0), (75, .bool true)], hpGet [(9, .box 55 [.int .i64 (word.getD st1.2.2.toNat (0, 0, 0, 0, 0, 0)).1, .int .i64 (word.getD st1.2.2.toNat (0, 0, 0, 0, 0, 0)).2.1, .int .i64 (word.getD st1.2.2.toNat (0, 0, 0, 0, 0, 0)).2.2.1, .int .i64 (word.getD st1.2.2.toNat (0, 0, 0, 0, 0, 0)).2.2.2.1, .int .i64 (word.getD st1.2.2.toNat (0, 0, 0, 0, 0, 0)).2.2.2.2.1, .int .i64 (word.getD st1.2.2.toNat (0, 0, 0, 0, 0, 0)).2.2.2.2.2]), (19, .arr 3 (.int .i64) st1.1), (123, .arr 55 Y1 st1.2.1)], gt⟩) (Wk.to (by (simp only [go_sem, hb2, hb3, hb10, hb16, hb31, hb49, hb55, hb60]) <;> (repeat' with_reducible apply And.intro) <;> first | assumption | rfl | omega | (unfold maxLen; omega))) ?_
                    refine AW.cond (b := true) rfl (fun _ => ?_) (fun hb62 => by cases hb62)
                    refine AW.seq ?_
                    refine AW.ops ?_
                    refine AO.allF tab_ok (by decide) [(4, .cv (.slice none 0 0)), (5, .int .i64 20)] [] (by (simp only [go_sem, hb2, hb3, hb10, hb16, hb31, hb49, hb55, hb60]) <;> (repeat' with_reducible apply And.intro) <;> first | assumption | rfl | omega | (unfold maxLen; omega)) ?_
                    refine athen_n ?_
                    refine AW.ret ?_
                    refine athen_r ?_
                    refine ablock_r ?_
                    refine athen_r ?_
                    obtain rfl := Option.some.inj h
                    rw [← hd7 _ rfl] at ho6
                    have h := ho6
                    try simp only at h
                    refine athen_r ?_
                    refine ablock_r ?_
                    refine athen_r ?_
                    obtain rfl := Option.some.inj h
                    exact ⟨rfl, [], [2000], [], rfl, (by (simp only [go_sem, hb2, hb3, hb10, hb16, hb31, hb49, hb55, hb60]) <;> (repeat' with_reducible apply And.intro) <;> first | assumption | rfl | omega | (unfold maxLen; omega))⟩
                  · rw [if_neg (Bool.eq_false_iff.1 hb60)] at h
                    simp only [hb60]
                    refine adops_cut 4 (fun K' hK63 => ?_)
                    try dsimp only [List.drop_succ_cons, List.drop_zero, List.take_succ_cons, List.take_zero]
                    simp only [go_sem, hb2, hb3, hb10, hb16, hb31, hb49, hb55, hb60]
                    repeat (with_reducible refine And.intro (by first | assumption | rfl | omega | trivial | (unfold maxLen; omega)) ?_)
                    refine hK63 _ ?_
                    refine adops_nil ?_
                    refine athen_n ?_
                    refine AW.weaken (s' := ⟨fr [(0, .sl Y0 specs), (1, .sl Y1 word), (6, .own 19), (7, .own 123), (8, .int .i64 st1.2.2), (9, .bp 9 0), (75, .bool (!(decide ((word.getD st1.2.2.toNat (0, 0, 0, 0, 0, 0)).2.2.2.2.2 = 0))))], hpGet [(9, .box 55 [.int .i64 (word.getD st1.2.2.toNat (0, 0, 0, 0, 0, 0)).1, .int .i64 (word.getD st1.2.2.toNat (0, 0, 0, 0, 0, 0)).2.1, .int .i64 (word.getD st1.2.2.toNat (0, 0, 0, 0, 0, 0)).2.2.1, .int .i64 (word.getD st1.2.2.toNat (0, 0, 0, 0, 0, 0)).2.2.2.1, .int .i64 (word.getD st1.2.2.toNat (0, 0, 0, 0, 0, 0)).2.2.2.2.1, .int .i64 (word.getD st1.2.2.toNat (0, 0, 0, 0, 0, 0)).2.2.2.2.2]), (19, .arr 3 (.int .i64) st1.1), (123, .arr 55 Y1 st1.2.1)], gt⟩) (Wk.to (by (simp only [go_sem, hb2, hb3, hb10, hb16, hb31, hb49, hb55, hb60]) <;> (repeat' with_reducible apply And.intro) <;> first | assumption | rfl | omega | (unfold maxLen; omega))) ?_
                    refine AW.cond (b := (!(decide ((word.getD st1.2.2.toNat (0, 0, 0, 0, 0, 0)).2.2.2.2.2 = 0)))) rfl (fun hb64 => ?_) (fun hb64 => ?_)
                    · rw [if_pos hb64] at h
                      refine AW.seq ?_
                      refine AW.ops ?_
                      refine AO.allF tab_ok (by decide) [(4, .cv (.slice none 0 0)), (5, .int .i64 20)] [] (by (simp only [go_sem, hb2, hb3, hb10, hb16, hb31, hb49, hb55, hb60, hb64]) <;> (repeat' with_reducible apply And.intro) <;> first | assumption | rfl | omega | (unfold maxLen; omega)) ?_
                      refine athen_n ?_
                      refine AW.ret ?_
                      refine athen_r ?_
                      refine ablock_r ?_
                      refine athen_r ?_
                      obtain rfl := Option.some.inj h
                      rw [← hd7 _ rfl] at ho6
                      have h := ho6
                      try simp only at h
                      refine athen_r ?_
                      refine ablock_r ?_
                      refine athen_r ?_
                      obtain rfl := Option.some.inj h
                      exact ⟨rfl, [], [2000], [], rfl, (by (simp only [go_sem, hb2, hb3, hb10, hb16, hb31, hb49, hb55, hb60, hb64]) <;> (repeat' with_reducible apply And.intro) <;> first | assumption | rfl | omega | (unfold maxLen; omega))⟩
                    · rw [if_neg (Bool.eq_false_iff.1 hb64)] at h
                      refine AW.skip ?_
                      refine athen_n ?_
                      refine AW.seq ?_
                      refine AW.ops ?_
                      obtain ⟨c65, h⟩ := ck_some.1 h
                      obtain ⟨c66, h⟩ := ck_some.1 h
                      refine AO.allF tab_ok (by decide) [(0, .sl Y0 specs), (1, .sl Y1 word), (6, .own 19), (7, .own 123), (8, .int .i64 st1.2.2), (9, .bp 9 0), (10, .bp 10 0)] [(9, .box 55 [.int .i64 (word.getD st1.2.2.toNat (0, 0, 0, 0, 0, 0)).1, .int .i64 (word.getD st1.2.2.toNat (0, 0, 0, 0, 0, 0)).2.1, .int .i64 (word.getD st1.2.2.toNat (0, 0, 0, 0, 0, 0)).2.2.1, .int .i64 (word.getD st1.2.2.toNat (0, 0, 0, 0, 0, 0)).2.2.2.1, .int .i64 (word.getD st1.2.2.toNat (0, 0, 0, 0, 0, 0)).2.2.2.2.1, .int .i64 (word.getD st1.2.2.toNat (0, 0, 0, 0, 0, 0)).2.2.2.2.2]), (10, .box 64 [.int .i64 (specs.getD (word.getD st1.2.2.toNat (0, 0, 0, 0, 0, 0)).2.1.toNat (0, 0, [], [])).1, .int .i64 (specs.getD (word.getD st1.2.2.toNat (0, 0, 0, 0, 0, 0)).2.1.toNat (0, 0, [], [])).2.1, .sl (.sl (.int .i64)) (specs.getD (word.getD st1.2.2.toNat (0, 0, 0, 0, 0, 0)).2.1.toNat (0, 0, [], [])).2.2.1, .sl (.sl (.int .i64)) (specs.getD (word.getD st1.2.2.toNat (0, 0, 0, 0, 0, 0)).2.1.toNat (0, 0, [], [])).2.2.2]), (19, .arr 3 (.int .i64) st1.1), (123, .arr 55 Y1 st1.2.1)] (by (simp only [go_sem, hb2, hb3, hb10, hb16, hb31, hb49, hb55, hb60, hb64]) <;> (repeat' with_reducible apply And.intro) <;> first | assumption | rfl | omega | (unfold maxLen; omega)) ?_
                      refine athen_n ?_
                      refine AW.seq ?_
                      refine AW.draw tab_ok mixed_ok [(20, [9]), (22, [9]), (24, [9])] [(13, []), (14, []), (15, []), (16, []), (17, []), (18, [])] (by decide) (lex_fast (by kernel_rfl)) ?_
                      obtain ⟨c68, h⟩ := ck_some.1 h
                      obtain ⟨c69, h⟩ := ck_some.1 h
                      refine adops_cut 6 (fun K' hK67 => ?_)
                      try dsimp only [List.drop_succ_cons, List.drop_zero, List.take_succ_cons, List.take_zero]
                      simp only [go_sem, hb2, hb3, hb10, hb16, hb31, hb49, hb55, hb60, hb64]
                      repeat (with_reducible refine And.intro (by first | assumption | rfl | omega | trivial | (unfold maxLen; omega)) ?_)
                      refine hK67 _ ?_
                      obtain ⟨c71, h⟩ := ck_some.1 h
                      obtain ⟨c72, h⟩ := ck_some.1 h
                      obtain ⟨c73, h⟩ := ck_some.1 h
                      obtain ⟨c74, h⟩ := ck_some.1 h
                      refine adops_cut 6 (fun K' hK70 => ?_)
                      try dsimp only [List.drop_succ_cons, List.drop_zero, List.take_succ_cons, List.take_zero]
                      simp only [go_sem, hb2, hb3, hb10, hb16, hb31, hb49, hb55, hb60, hb64]
                      repeat (with_reducible refine And.intro (by first | assumption | rfl | omega | trivial | (unfold maxLen; omega)) ?_)
                      refine hK70 _ ?_
                      obtain ⟨c76, h⟩ := ck_some.1 h
                      obtain ⟨c77, h⟩ := ck_some.1 h
                      obtain ⟨c78, h⟩ := ck_some.1 h
                      refine adops_cut 6 (fun K' hK75 => ?_)
                      try dsimp only [List.drop_succ_cons, List.drop_zero, List.take_succ_cons, List.take_zero]
                      simp only [go_sem, hb2, hb3, hb10, hb16, hb31, hb49, hb55, hb60, hb64]
                      repeat (with_reducible refine And.intro (by first | assumption | rfl | omega | trivial | (unfold maxLen; omega)) ?_)
                      refine hK75 _ ?_
                      obtain ⟨c80, h⟩ := ck_some.1 h
                      refine adops_cut 6 (fun K' hK79 => ?_)
                      try dsimp only [List.drop_succ_cons, List.drop_zero, List.take_succ_cons, List.take_zero]
                      simp only [go_sem, hb2, hb3, hb10, hb16, hb31, hb49, hb55, hb60, hb64]
                      repeat (with_reducible refine And.intro (by first | assumption | rfl | omega | trivial | (unfold maxLen; omega)) ?_)
                      refine hK79 _ ?_
                      refine adops_cut 1 (fun K' hK81 => ?_)
                      try dsimp only [List.drop_succ_cons, List.drop_zero, List.take_succ_cons, List.take_zero]
                      simp only [go_sem, hb2, hb3, hb10, hb16, hb31, hb49, hb55, hb60, hb64]
                      repeat (with_reducible refine And.intro (by first | assumption | rfl | omega | trivial | (unfold maxLen; omega)) ?_)
                      refine hK81 _ ?_
                      refine adops_nil ?_
                      refine athen_n ?_
                      refine AW.weaken (s' := ⟨fr [(0, .sl Y0 specs), (1, .sl Y1 word), (6, .own 19), (7, .own 123), (8, .int .i64 st1.2.2), (9, .bp 9 0), (10, .bp 10 0)], hpGet [(9, .box 55 [.int .i64 (word.getD st1.2.2.toNat (0, 0, 0, 0, 0, 0)).1, .int .i64 (word.getD st1.2.2.toNat (0, 0, 0, 0, 0, 0)).2.1, .int .i64 (word.getD st1.2.2.toNat (0, 0, 0, 0, 0, 0)).2.2.1, .int .i64 (((specs.getD (word.getD st1.2.2.toNat (0, 0, 0, 0, 0, 0)).2.1.toNat (0, 0, [], [])).2.2.2.getD (st1.1.getD (word.getD st1.2.2.toNat (0, 0, 0, 0, 0, 0)).2.1.toNat 0).toNat []).getD (word.getD st1.2.2.toNat (0, 0, 0, 0, 0, 0)).2.2.1.toNat 0), .int .i64 ((2 * st1.2.2) + 1), .int .i64 ((2 * st1.2.2) + 2)]), (10, .box 64 [.int .i64 (specs.getD (word.getD st1.2.2.toNat (0, 0, 0, 0, 0, 0)).2.1.toNat (0, 0, [], [])).1, .int .i64 (specs.getD (word.getD st1.2.2.toNat (0, 0, 0, 0, 0, 0)).2.1.toNat (0, 0, [], [])).2.1, .sl (.sl (.int .i64)) (specs.getD (word.getD st1.2.2.toNat (0, 0, 0, 0, 0, 0)).2.1.toNat (0, 0, [], [])).2.2.1, .sl (.sl (.int .i64)) (specs.getD (word.getD st1.2.2.toNat (0, 0, 0, 0, 0, 0)).2.1.toNat (0, 0, [], [])).2.2.2]), (19, .arr 3 (.int .i64) st1.1), (123, .arr 55 Y1 st1.2.1)], gt⟩) (Wk.to (by (simp only [go_sem, hb2, hb3, hb10, hb16, hb31, hb49, hb55, hb60, hb64]) <;> (repeat' with_reducible apply And.intro) <;> first | assumption | rfl | omega | (unfold maxLen; omega))) ?_
                      refine AW.seq ?_
                      refine AW.draw tab_ok mixed_ok [(17, [19])] [] (by decide) (by kernel_rfl) ?_
                      refine adops_cut 6 (fun K' hK82 => ?_)
                      try dsimp only [List.drop_succ_cons, List.drop_zero, List.take_succ_cons, List.take_zero]
                      simp only [go_sem, hb2, hb3, hb10, hb16, hb31, hb49, hb55, hb60, hb64]
                      repeat (with_reducible refine And.intro (by first | assumption | rfl | omega | trivial | (unfold maxLen; omega)) ?_)
                      refine hK82 _ ?_
                      obtain ⟨c84, h⟩ := ck_some.1 h
                      obtain ⟨c85, h⟩ := ck_some.1 h
                      obtain ⟨c86, h⟩ := ck_some.1 h
                      obtain ⟨c87, h⟩ := ck_some.1 h
                      refine adops_cut 6 (fun K' hK83 => ?_)
                      try dsimp only [List.drop_succ_cons, List.drop_zero, List.take_succ_cons, List.take_zero]
                      simp only [go_sem, hb2, hb3, hb10, hb16, hb31, hb49, hb55, hb60, hb64]
                      repeat (with_reducible refine And.intro (by first | assumption | rfl | omega | trivial | (unfold maxLen; omega)) ?_)
                      refine hK83 _ ?_
                      obtain ⟨c89, h⟩ := ck_some.1 h
                      obtain ⟨c90, h⟩ := ck_some.1 h
                      obtain ⟨c91, h⟩ := ck_some.1 h
                      obtain ⟨c92, h⟩ := ck_some.1 h
                      refine adops_cut 6 (fun K' hK88 => ?_)
                      try dsimp only [List.drop_succ_cons, List.drop_zero, List.take_succ_cons, List.take_zero]
                      simp only [go_sem, hb2, hb3, hb10, hb16, hb31, hb49, hb55, hb60, hb64]
                      repeat (with_reducible refine And.intro (by first | assumption | rfl | omega | trivial | (unfold maxLen; omega)) ?_)
                      refine hK88 _ ?_
                      refine adops_nil ?_
                      refine athen_n ?_
                      refine AW.weaken (s' := ⟨fr [(0, .sl Y0 specs), (1, .sl Y1 word), (6, .own 19), (7, .own 123), (8, .int .i64 st1.2.2), (9, .bp 9 0)], hpGet [(9, .box 55 [.int .i64 (word.getD st1.2.2.toNat (0, 0, 0, 0, 0, 0)).1, .int .i64 (word.getD st1.2.2.toNat (0, 0, 0, 0, 0, 0)).2.1, .int .i64 (word.getD st1.2.2.toNat (0, 0, 0, 0, 0, 0)).2.2.1, .int .i64 (((specs.getD (word.getD st1.2.2.toNat (0, 0, 0, 0, 0, 0)).2.1.toNat (0, 0, [], [])).2.2.2.getD (st1.1.getD (word.getD st1.2.2.toNat (0, 0, 0, 0, 0, 0)).2.1.toNat 0).toNat []).getD (word.getD st1.2.2.toNat (0, 0, 0, 0, 0, 0)).2.2.1.toNat 0), .int .i64 ((2 * st1.2.2) + 1), .int .i64 ((2 * st1.2.2) + 2)]), (19, .arr 3 (.int .i64) (st1.1.set (word.getD st1.2.2.toNat (0, 0, 0, 0, 0, 0)).2.1.toNat (((specs.getD (word.getD st1.2.2.toNat (0, 0, 0, 0, 0, 0)).2.1.toNat (0, 0, [], [])).2.2.1.getD (st1.1.getD (word.getD st1.2.2.toNat (0, 0, 0, 0, 0, 0)).2.1.toNat 0).toNat []).getD (word.getD st1.2.2.toNat (0, 0, 0, 0, 0, 0)).2.2.1.toNat 0))), (123, .arr 55 Y1 st1.2.1)], gt⟩) (Wk.to (by (simp only [go_sem, hb2, hb3, hb10, hb16, hb31, hb49, hb55, hb60, hb64]) <;> (repeat' with_reducible apply And.intro) <;> first | assumption | rfl | omega | (unfold maxLen; omega))) ?_
                      refine AW.ops ?_
                      obtain ⟨c93, h⟩ := ck_some.1 h
                      refine AO.allF tab_ok (by decide) [(0, .sl Y0 specs), (1, .sl Y1 word), (6, .own 19), (7, .own 123), (8, .int .i64 st1.2.2)] [(19, .arr 3 (.int .i64) (st1.1.set (word.getD st1.2.2.toNat (0, 0, 0, 0, 0, 0)).2.1.toNat (((specs.getD (word.getD st1.2.2.toNat (0, 0, 0, 0, 0, 0)).2.1.toNat (0, 0, [], [])).2.2.1.getD (st1.1.getD (word.getD st1.2.2.toNat (0, 0, 0, 0, 0, 0)).2.1.toNat 0).toNat []).getD (word.getD st1.2.2.toNat (0, 0, 0, 0, 0, 0)).2.2.1.toNat 0))), (123, .arr 55 Y1 (st1.2.1 ++ [((word.getD st1.2.2.toNat (0, 0, 0, 0, 0, 0)).1, (word.getD st1.2.2.toNat (0, 0, 0, 0, 0, 0)).2.1, (word.getD st1.2.2.toNat (0, 0, 0, 0, 0, 0)).2.2.1, (((specs.getD (word.getD st1.2.2.toNat (0, 0, 0, 0, 0, 0)).2.1.toNat (0, 0, [], [])).2.2.2.getD (st1.1.getD (word.getD st1.2.2.toNat (0, 0, 0, 0, 0, 0)).2.1.toNat 0).toNat []).getD (word.getD st1.2.2.toNat (0, 0, 0, 0, 0, 0)).2.2.1.toNat 0), ((2 * st1.2.2) + 1), ((2 * st1.2.2) + 2))]))] (by (simp only [go_sem, hb2, hb3, hb10, hb16, hb31, hb49, hb55, hb60, hb64]) <;> (repeat' with_reducible apply And.intro) <;> first | assumption | rfl | omega | (unfold maxLen; omega)) ?_
                      refine ablock_n ?_
                      refine athen_n ?_
                      refine AW.ops ?_
                      obtain ⟨c94, h⟩ := ck_some.1 h
                      refine AO.allF tab_ok (by decide) [(0, .sl Y0 specs), (1, .sl Y1 word), (6, .own 19), (7, .own 123), (8, .int .i64 (st1.2.2 + 1))] [(19, .arr 3 (.int .i64) (st1.1.set (word.getD st1.2.2.toNat (0, 0, 0, 0, 0, 0)).2.1.toNat (((specs.getD (word.getD st1.2.2.toNat (0, 0, 0, 0, 0, 0)).2.1.toNat (0, 0, [], [])).2.2.1.getD (st1.1.getD (word.getD st1.2.2.toNat (0, 0, 0, 0, 0, 0)).2.1.toNat 0).toNat []).getD (word.getD st1.2.2.toNat (0, 0, 0, 0, 0, 0)).2.2.1.toNat 0))), (123, .arr 55 Y1 (st1.2.1 ++ [((word.getD st1.2.2.toNat (0, 0, 0, 0, 0, 0)).1, (word.getD st1.2.2.toNat (0, 0, 0, 0, 0, 0)).2.1, (word.getD st1.2.2.toNat (0, 0, 0, 0, 0, 0)).2.2.1, (((specs.getD (word.getD st1.2.2.toNat (0, 0, 0, 0, 0, 0)).2.1.toNat (0, 0, [], [])).2.2.2.getD (st1.1.getD (word.getD st1.2.2.toNat (0, 0, 0, 0, 0, 0)).2.1.toNat 0).toNat []).getD (word.getD st1.2.2.toNat (0, 0, 0, 0, 0, 0)).2.2.1.toNat 0), ((2 * st1.2.2) + 1), ((2 * st1.2.2) + 2))]))] (by (simp only [go_sem, hb2, hb3, hb10, hb16, hb31, hb49, hb55, hb60, hb64]) <;> (repeat' with_reducible apply And.intro) <;> first | assumption | rfl | omega | (unfold maxLen; omega)) ?_
                      obtain rfl := Option.some.inj h
                      exact ⟨_, rfl, Wk.le [] [] [] rfl (by (simp only [go_sem, hb2, hb3, hb10, hb16, hb31, hb49, hb55, hb60, hb64]) <;> (repeat' with_reducible apply And.intro) <;> first | assumption | rfl | omega | (unfold maxLen; omega)) (by (simp only [go_sem, hb2, hb3, hb10, hb16, hb31, hb49, hb55, hb60, hb64]) <;> (repeat' with_reducible apply And.intro) <;> first | assumption | rfl | omega | (unfold maxLen; omega))⟩
        · rw [if_neg (Bool.eq_false_iff.1 hb10)] at h
          refine AW.exit ?_
          refine athen_e ?_
          obtain rfl := Option.some.inj h
          rw [← hd7 _ rfl] at ho6
          have h := ho6
          try simp only at h
          refine athen_e ?_
          refine ablock_s ?_
          refine athen_n ?_
          exact AW.weaken (Wk.le [] [] [] rfl (by (simp only [go_sem, hb2, hb3, hb10]) <;> (repeat' with_reducible apply And.intro) <;> first | assumption | rfl | omega | (unfold maxLen; omega)) (by (simp only [go_sem, hb2, hb3, hb10]) <;> (repeat' with_reducible apply And.intro) <;> first | assumption | rfl | omega | (unfold maxLen; omega))) (hk_linealref02_Play_k1 _ h)

set_option maxRecDepth 100000 in
set_option maxHeartbeats 2000000 in
theorem hc_lineallaw02_HistoryPlays (specs : List (Int × Int × (List (List Int)) × (List (List Int)))) (word : List (Int × Int × Int × Int × Int × Int)) {r : Bool} (h : lineallaw02_HistoryPlays specs word = some r) : HC Try.prog 9 [] [.sl Y0 specs, .sl Y1 word] [] (.bool r) := by
  unfold lineallaw02_HistoryPlays at h
  refine HC.of_body tab_ok (res := [.tmp 4]) Try.func9 rfl (by kernel_rfl) rfl (nt := 39) rfl (by decide) (by simp) ?_
  refine AW.seq ?_
  refine AW.ops ?_
  refine AO.allF tab_ok (by decide) [(0, .sl Y0 specs), (1, .sl Y1 word)] [] (by (simp only [go_sem]) <;> (repeat' with_reducible apply And.intro) <;> first | assumption | rfl | omega | (unfold maxLen; omega)) ?_
  refine athen_n ?_
  refine AW.seq ?_
  refine AW.seq ?_
  refine AW.ops ?_
  refine AO.segF tab_ok 1 (by decide) [(0, .sl Y0 specs), (1, .sl Y1 word), (9, .sl Y0 specs)] [] (by (simp only [go_sem]) <;> (repeat' with_reducible apply And.intro) <;> first | assumption | rfl | omega | (unfold maxLen; omega)) ?_
  obtain ⟨v0, hv1, h⟩ := Option.bind_eq_some_iff.1 h
  refine AO.call tab_ok (by decide) rfl rfl rfl (fun _ h => h) [] [] (hc_lineallaw02_Large specs hv1) rfl (by (simp only [go_sem]) <;> (repeat' with_reducible apply And.intro) <;> first | assumption | rfl | omega | (unfold maxLen; omega)) (by (simp only [go_sem]) <;> (repeat' with_reducible apply And.intro) <;> first | assumption | rfl | omega | (unfold maxLen; omega)) [(0, .sl Y0 specs), (1, .sl Y1 word), (10, .bool v0)] [] (by (simp only [go_sem]) <;> (repeat' with_reducible apply And.intro) <;> first | assumption | rfl | omega | (unfold maxLen; omega)) ?_
  refine AO.segF tab_ok 1 (by decide) [(0, .sl Y0 specs), (1, .sl Y1 word), (11, .bool v0)] [] (by (simp only [go_sem]) <;> (repeat' with_reducible apply And.intro) <;> first | assumption | rfl | omega | (unfold maxLen; omega)) ?_
  rcases Bool.eq_false_or_eq_true v0 with hb2 | hb2
  · rw [if_pos hb2] at h
    refine AO.weaken (s' := ⟨fr [(0, .sl Y0 specs), (1, .sl Y1 word), (11, .bool true)], hpGet [], gt⟩) (Wk.to (by (simp only [go_sem, hb2]) <;> (repeat' with_reducible apply And.intro) <;> first | assumption | rfl | omega | (unfold maxLen; omega))) ?_
    refine AO.allF tab_ok (by decide) [(0, .sl Y0 specs), (1, .sl Y1 word), (14, .bool true)] [] (by (simp only [go_sem, hb2]) <;> (repeat' with_reducible apply And.intro) <;> first | assumption | rfl | omega | (unfold maxLen; omega)) ?_
    refine athen_n ?_
    refine AW.cond (b := true) rfl (fun _ => ?_) (fun hb3 => by cases hb3)
    refine AW.seq ?_
    refine AW.ops ?_
    obtain ⟨v0_2, hv4, h⟩ := Option.bind_eq_some_iff.1 h
    refine AO.call tab_ok (by decide) rfl rfl rfl (fun _ h => h) [] [] (hc_lineallaw02_Sane hv4) rfl (by (simp only [go_sem, hb2]) <;> (repeat' with_reducible apply And.intro) <;> first | assumption | rfl | omega | (unfold maxLen; omega)) (by (simp only [go_sem, hb2]) <;> (repeat' with_reducible apply And.intro) <;> first | assumption | rfl | omega | (unfold maxLen; omega)) [(15, .bool v0_2)] [] (by (simp only [go_sem, hb2]) <;> (repeat' with_reducible apply And.intro) <;> first | assumption | rfl | omega | (unfold maxLen; omega)) ?_
    refine AO.allF tab_ok (by decide) [(4, .bool v0_2)] [] (by (simp only [go_sem, hb2]) <;> (repeat' with_reducible apply And.intro) <;> first | assumption | rfl | omega | (unfold maxLen; omega)) ?_
    refine athen_n ?_
    refine AW.ret ?_
    refine athen_r ?_
    obtain rfl := Option.some.inj h
    exact ⟨rfl, [], [], [], rfl, (by (simp only [go_sem, hb2]) <;> (repeat' with_reducible apply And.intro) <;> first | assumption | rfl | omega | (unfold maxLen; omega))⟩
  · rw [if_neg (Bool.eq_false_iff.1 hb2)] at h
    refine AO.weaken (s' := ⟨fr [(0, .sl Y0 specs), (1, .sl Y1 word), (11, .bool false)], hpGet [], gt⟩) (Wk.to (by (simp only [go_sem, hb2]) <;> (repeat' with_reducible apply And.intro) <;> first | assumption | rfl | omega | (unfold maxLen; omega))) ?_
    refine AO.segF tab_ok 1 (by decide) [(0, .sl Y0 specs), (1, .sl Y1 word), (11, .bool false), (12, .sl Y1 word)] [] (by (simp only [go_sem, hb2]) <;> (repeat' with_reducible apply And.intro) <;> first | assumption | rfl | omega | (unfold maxLen; omega)) ?_
    obtain ⟨v0_3, hv5, h⟩ := Option.bind_eq_some_iff.1 h
    refine AO.call tab_ok (by decide) rfl rfl rfl (fun _ h => ⟨fun _ => h, fun hn => absurd rfl hn⟩) [] [] (hc_lineallaw02_Long word hv5) rfl (by (simp only [go_sem, hb2]) <;> (repeat' with_reducible apply And.intro) <;> first | assumption | rfl | omega | (unfold maxLen; omega)) (by (simp only [go_sem, hb2]) <;> (repeat' with_reducible apply And.intro) <;> first | assumption | rfl | omega | (unfold maxLen; omega)) [(0, .sl Y0 specs), (1, .sl Y1 word), (11, .bool false), (13, .bool (decide (40 < (word.length : Int))))] [] (by (simp only [go_sem, hb2]) <;> (repeat' with_reducible apply And.intro) <;> first | assumption | rfl | omega | (unfold maxLen; omega)) ?_
    refine AO.allF tab_ok (by decide) [(0, .sl Y0 specs), (1, .sl Y1 word), (14, .bool (decide (40 < (word.length : Int))))] [] (by (simp only [go_sem, hb2]) <;> (repeat' with_reducible apply And.intro) <;> first | assumption | rfl | omega | (unfold maxLen; omega)) ?_
    refine athen_n ?_
    refine AW.cond (b := (decide (40 < (word.length : Int)))) rfl (fun hb6 => ?_) (fun hb6 => ?_)
    · rw [if_pos hb6] at h
      refine AW.seq ?_
      refine AW.ops ?_
      obtain ⟨v0_4, hv7, h⟩ := Option.bind_eq_some_iff.1 h
      refine AO.call tab_ok (by decide) rfl rfl rfl (fun _ h => h) [] [] (hc_lineallaw02_Sane hv7) rfl (by (simp only [go_sem, hb2, hb6]) <;> (repeat' with_reducible apply And.intro) <;> first | assumption | rfl | omega | (unfold maxLen; omega)) (by (simp only [go_sem, hb2, hb6]) <;> (repeat' with_reducible apply And.intro) <;> first | assumption | rfl | omega | (unfold maxLen; omega)) [(15, .bool v0_4)] [] (by (simp only [go_sem, hb2, hb6]) <;> (repeat' with_reducible apply And.intro) <;> first | assumption | rfl | omega | (unfold maxLen; omega)) ?_
      refine AO.allF tab_ok (by decide) [(4, .bool v0_4)] [] (by (simp only [go_sem, hb2, hb6]) <;> (repeat' with_reducible apply And.intro) <;> first | assumption | rfl | omega | (unfold maxLen; omega)) ?_
      refine athen_n ?_
      refine AW.ret ?_
      refine athen_r ?_
      obtain rfl := Option.some.inj h
      exact ⟨rfl, [], [], [], rfl, (by (simp only [go_sem, hb2, hb6]) <;> (repeat' with_reducible apply And.intro) <;> first | assumption | rfl | omega | (unfold maxLen; omega))⟩
    · rw [if_neg (Bool.eq_false_iff.1 hb6)] at h
      refine AW.skip ?_
      refine athen_n ?_
      refine AW.seq ?_
      refine AW.ops ?_
      refine AO.segF tab_ok 2 (by decide) [(0, .sl Y0 specs), (1, .sl Y1 word), (17, .sl Y0 specs), (18, .sl Y1 word)] [] (by (simp only [go_sem, hb2, hb6]) <;> (repeat' with_reducible apply And.intro) <;> first | assumption | rfl | omega | (unfold maxLen; omega)) ?_
      obtain ⟨v0_5, hv8, h⟩ := Option.bind_eq_some_iff.1 h
      refine AO.call tab_ok (by decide) rfl rfl rfl (fun _ h => h) [] [] (hc_history_Play specs word hv8) rfl (by (simp only [go_sem, hb2, hb6]) <;> (repeat' with_reducible apply And.intro) <;> first | assumption | rfl | omega | (unfold maxLen; omega)) (by (simp only [go_sem, hb2, hb6]) <;> (repeat' with_reducible apply And.intro) <;> first | assumption | rfl | omega | (unfold maxLen; omega)) [(0, .sl Y0 specs), (1, .sl Y1 word), (19, .tup [.own 29000, .int .i64 v0_5.2])] [(29000, .arr 55 Y1 v0_5.1)] (by (simp only [go_sem, hb2, hb6]) <;> (repeat' with_reducible apply And.intro) <;> first | assumption | rfl | omega | (unfold maxLen; omega)) ?_
      refine AO.allF tab_ok (by decide) [(0, .sl Y0 specs), (1, .sl Y1 word), (5, .own 29000), (6, .int .i64 v0_5.2)] [(29000, .arr 55 Y1 v0_5.1)] (by (simp only [go_sem, hb2, hb6]) <;> (repeat' with_reducible apply And.intro) <;> first | assumption | rfl | omega | (unfold maxLen; omega)) ?_
      refine athen_n ?_
      refine AW.seq ?_
      refine AW.ops ?_
      refine AO.segF tab_ok 2 (by decide) [(5, .own 29000), (6, .int .i64 v0_5.2), (23, .sl Y0 specs), (24, .sl Y1 word)] [(29000, .arr 55 Y1 v0_5.1)] (by (simp only [go_sem, hb2, hb6]) <;> (repeat' with_reducible apply And.intro) <;> first | assumption | rfl | omega | (unfold maxLen; omega)) ?_
      obtain ⟨v0_6, hv9, h⟩ := Option.bind_eq_some_iff.1 h
      refine AO.call tab_ok (by decide) rfl rfl rfl (fun _ h => h) [] [] (hc_linealref02_Play specs word hv9) rfl (by (simp only [go_sem, hb2, hb6]) <;> (repeat' with_reducible apply And.intro) <;> first | assumption | rfl | omega | (unfold maxLen; omega)) (by (simp only [go_sem, hb2, hb6]) <;> (repeat' with_reducible apply And.intro) <;> first | assumption | rfl | omega | (unfold maxLen; omega)) [(5, .own 29000), (6, .int .i64 v0_5.2), (25, .tup [.own 35000, .int .i64 v0_6.2])] [(29000, .arr 55 Y1 v0_5.1), (35000, .arr 55 Y1 v0_6.1)] (by (simp only [go_sem, hb2, hb6]) <;> (repeat' with_reducible apply And.intro) <;> first | assumption | rfl | omega | (unfold maxLen; omega)) ?_
      refine AO.allF tab_ok (by decide) [(5, .own 29000), (6, .int .i64 v0_5.2), (7, .own 35000), (8, .int .i64 v0_6.2)] [(29000, .arr 55 Y1 v0_5.1), (35000, .arr 55 Y1 v0_6.1)] (by (simp only [go_sem, hb2, hb6]) <;> (repeat' with_reducible apply And.intro) <;> first | assumption | rfl | omega | (unfold maxLen; omega)) ?_
      refine athen_n ?_
      refine AW.seq ?_
      refine AW.ops ?_
      refine AO.segF tab_ok 2 (by decide) [(6, .int .i64 v0_5.2), (8, .int .i64 v0_6.2), (28, .own 29000), (29, .own 35000)] [(29000, .arr 55 Y1 v0_5.1), (35000, .arr 55 Y1 v0_6.1)] (by (simp only [go_sem, hb2, hb6]) <;> (repeat' with_reducible apply And.intro) <;> first | assumption | rfl | omega | (unfold maxLen; omega)) ?_
      obtain ⟨v0_7, hv10, h⟩ := Option.bind_eq_some_iff.1 h
      refine AO.call tab_ok (by decide) rfl rfl rfl (fun _ h => h) [29000, 35000] [] (hc_linealref02_Same v0_5.1 v0_6.1 hv10) rfl (by (simp only [go_sem, hb2, hb6]) <;> (repeat' with_reducible apply And.intro) <;> first | assumption | rfl | omega | (unfold maxLen; omega)) (by (simp only [go_sem, hb2, hb6]) <;> (repeat' with_reducible apply And.intro) <;> first | assumption | rfl | omega | (unfold maxLen; omega)) [(6, .int .i64 v0_5.2), (8, .int .i64 v0_6.2), (30, .bool v0_7)] [] (by (simp only [go_sem, hb2, hb6]) <;> (repeat' with_reducible apply And.intro) <;> first | assumption | rfl | omega | (unfold maxLen; omega)) ?_
      refine AO.segF tab_ok 1 (by decide) [(6, .int .i64 v0_5.2), (8, .int .i64 v0_6.2), (31, .bool v0_7)] [] (by (simp only [go_sem, hb2, hb6]) <;> (repeat' with_reducible apply And.intro) <;> first | assumption | rfl | omega | (unfold maxLen; omega)) ?_
      rcases Bool.eq_false_or_eq_true v0_7 with hb11 | hb11
      · rw [if_pos hb11] at h
        refine AO.weaken (s' := ⟨fr [(6, .int .i64 v0_5.2), (8, .int .i64 v0_6.2), (31, .bool true)], hpGet [], gt⟩) (Wk.to (by (simp only [go_sem, hb2, hb6, hb11]) <;> (repeat' with_reducible apply And.intro) <;> first | assumption | rfl | omega | (unfold maxLen; omega))) ?_
        refine AO.segF tab_ok 5 (by decide) [(36, .bool (decide (v0_5.2 = v0_6.2)))] [] (by (simp only [go_sem, hb2, hb6, hb11]) <;> (repeat' with_reducible apply And.intro) <;> first | assumption | rfl | omega | (unfold maxLen; omega)) ?_
        rcases Bool.eq_false_or_eq_true (decide (v0_5.2 = v0_6.2)) with hb12 | hb12
        · rw [if_pos hb12] at h
          refine AO.weaken (s' := ⟨fr [(36, .bool true)], hpGet [], gt⟩) (Wk.to (by (simp only [go_sem, hb2, hb6, hb11, hb12]) <;> (repeat' with_reducible apply And.intro) <;> first | assumption | rfl | omega | (unfold maxLen; omega))) ?_
          obtain ⟨v0_8, hv13, h⟩ := Option.bind_eq_some_iff.1 h
          refine AO.call tab_ok (by decide) rfl rfl rfl (fun _ h => ⟨fun _ => h, fun hn => absurd rfl hn⟩) [] [] (hc_lineallaw02_Sane hv13) rfl (by (simp only [go_sem, hb2, hb6, hb11, hb12]) <;> (repeat' with_reducible apply And.intro) <;> first | assumption | rfl | omega | (unfold maxLen; omega)) (by (simp only [go_sem, hb2, hb6, hb11, hb12]) <;> (repeat' with_reducible apply And.intro) <;> first | assumption | rfl | omega | (unfold maxLen; omega)) [(36, .bool true), (37, .bool v0_8)] [] (by (simp only [go_sem, hb2, hb6, hb11, hb12]) <;> (repeat' with_reducible apply And.intro) <;> first | assumption | rfl | omega | (unfold maxLen; omega)) ?_
          refine AO.allF tab_ok (by decide) [(4, .bool v0_8)] [] (by (simp only [go_sem, hb2, hb6, hb11, hb12]) <;> (repeat' with_reducible apply And.intro) <;> first | assumption | rfl | omega | (unfold maxLen; omega)) ?_
          refine athen_n ?_
          refine AW.ret ?_
          obtain rfl := Option.some.inj h
          exact ⟨rfl, [], [], [], rfl, (by (simp only [go_sem, hb2, hb6, hb11, hb12]) <;> (repeat' with_reducible apply And.intro) <;> first | assumption | rfl | omega | (unfold maxLen; omega))⟩
        · rw [if_neg (Bool.eq_false_iff.1 hb12)] at h
          refine AO.weaken (s' := ⟨fr [(36, .bool false)], hpGet [], gt⟩) (Wk.to (by (simp only [go_sem, hb2, hb6, hb11, hb12]) <;> (repeat' with_reducible apply And.intro) <;> first | assumption | rfl | omega | (unfold maxLen; omega))) ?_
          refine AO.allF tab_ok (by decide) [(4, .bool false)] [] (by (simp only [go_sem, hb2, hb6, hb11, hb12]) <;> (repeat' with_reducible apply And.intro) <;> first | assumption | rfl | omega | (unfold maxLen; omega)) ?_
          refine athen_n ?_
          refine AW.ret ?_
          obtain rfl := Option.some.inj h
          exact ⟨rfl, [], [], [], rfl, (by (simp only [go_sem, hb2, hb6, hb11, hb12]) <;> (repeat' with_reducible apply And.intro) <;> first | assumption | rfl | omega | (unfold maxLen; omega))⟩
      · rw [if_neg (Bool.eq_false_iff.1 hb11)] at h
        refine AO.weaken (s' := ⟨fr [(6, .int .i64 v0_5.2), (8, .int .i64 v0_6.2), (31, .bool false)], hpGet [], gt⟩) (Wk.to (by (simp only [go_sem, hb2, hb6, hb11]) <;> (repeat' with_reducible apply And.intro) <;> first | assumption | rfl | omega | (unfold maxLen; omega))) ?_
        refine AO.segF tab_ok 6 (by decide) [(36, .bool false), (37, .cv (undef))] [] (by (simp only [go_sem, hb2, hb6, hb11]) <;> (repeat' with_reducible apply And.intro) <;> first | assumption | rfl | omega | (unfold maxLen; omega)) ?_
        refine AO.allF tab_ok (by decide) [(4, .bool false)] [] (by (simp only [go_sem, hb2, hb6, hb11]) <;> (repeat' with_reducible apply And.intro) <;> first | assumption | rfl | omega | (unfold maxLen; omega)) ?_
        refine athen_n ?_
        refine AW.ret ?_
        obtain rfl := Option.some.inj h
        exact ⟨rfl, [], [], [], rfl, (by (simp only [go_sem, hb2, hb6, hb11]) <;> (repeat' with_reducible apply And.intro) <;> first | assumption | rfl | omega | (unfold maxLen; omega))⟩

end Go.Proofs.Ytdkdkpenmgkdcaa
