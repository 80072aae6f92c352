/-
  Made by wip/tool/dc.py out of the print of the program: contracts.
-/
import Derived.Test.YtdkdkpenmgkdcaaHp
import Derived.Test.YtdkdkpenmgkdcaaTbh
import Derived.Test.YtdkdkpenmgkdcaaKec5
import Derived.Test.YtdkdkpenmgkdcaaKec7
import Derived.Test.YtdkdkpenmgkdcaaKec8
namespace Go.Proofs.Ytdkdkpenmgkdcaa
open Go.RowKit

set_option linter.unusedSimpArgs false
set_option linter.unusedVariables false
set_option linter.constructorNameAsVariable false

set_option maxRecDepth 100000 in
set_option maxHeartbeats 2000000 in
theorem hc_lineallaw02_HistoryStays (specs : List (Int × Int × (List (List Int)) × (List (List Int)))) (h0 : List (Int × Int × Int × Int × Int × Int)) (v0 : Int × Int × Int) {r : Bool} (h : lineallaw02_HistoryStays specs h0 v0 = some r) : HC Try.prog 14 [] [.sl Y0 specs, .sl Y1 h0, .agg [.int .u8 v0.1, .int .u8 v0.2.1, .int .u8 v0.2.2]] [] (.bool r) := by
  unfold lineallaw02_HistoryStays at h
  refine HC.of_body tab_ok (res := [.tmp 6]) Try.func14 rfl (by kernel_rfl) rfl (nt := 133) rfl (by decide) (by simp) ?_
  refine AW.seq ?_
  refine AW.ops ?_
  refine AO.allF tab_ok (by decide) [(0, .sl Y0 specs), (1, .sl Y1 h0), (5, .bp 5 0)] [(5, .box 58 [.int .u8 v0.1, .int .u8 v0.2.1, .int .u8 v0.2.2])] (by (simp only [go_sem]) <;> (repeat' with_reducible apply And.intro) <;> first | assumption | rfl | omega) ?_
  refine athen_n ?_
  refine AW.seq ?_
  refine AW.seq ?_
  refine AW.ops ?_
  refine AO.segF tab_ok 1 (by decide) [(0, .sl Y0 specs), (1, .sl Y1 h0), (5, .bp 5 0), (17, .sl Y0 specs)] [(5, .box 58 [.int .u8 v0.1, .int .u8 v0.2.1, .int .u8 v0.2.2])] (by (simp only [go_sem]) <;> (repeat' with_reducible apply And.intro) <;> first | assumption | rfl | omega) ?_
  obtain ⟨v0_2, hv1, h⟩ := Option.bind_eq_some_iff.1 h
  refine AO.call tab_ok (by decide) rfl rfl rfl (fun _ h => h) [] [] (hc_lineallaw02_Large specs hv1) rfl (by (simp only [go_sem]) <;> (repeat' with_reducible apply And.intro) <;> first | assumption | rfl | omega) (by (simp only [go_sem]) <;> (repeat' with_reducible apply And.intro) <;> first | assumption | rfl | omega) [(0, .sl Y0 specs), (1, .sl Y1 h0), (5, .bp 5 0), (18, .bool v0_2)] [(5, .box 58 [.int .u8 v0.1, .int .u8 v0.2.1, .int .u8 v0.2.2])] (by (simp only [go_sem]) <;> (repeat' with_reducible apply And.intro) <;> first | assumption | rfl | omega) ?_
  refine AO.segF tab_ok 1 (by decide) [(0, .sl Y0 specs), (1, .sl Y1 h0), (5, .bp 5 0), (19, .bool v0_2)] [(5, .box 58 [.int .u8 v0.1, .int .u8 v0.2.1, .int .u8 v0.2.2])] (by (simp only [go_sem]) <;> (repeat' with_reducible apply And.intro) <;> first | assumption | rfl | omega) ?_
  rcases Bool.eq_false_or_eq_true v0_2 with hb2 | hb2
  · rw [if_pos hb2] at h
    refine AO.weaken (s' := ⟨fr [(0, .sl Y0 specs), (1, .sl Y1 h0), (5, .bp 5 0), (19, .bool true)], hpGet [(5, .box 58 [.int .u8 v0.1, .int .u8 v0.2.1, .int .u8 v0.2.2])], gt⟩) (Wk.to (by (simp only [go_sem, hb2]) <;> (repeat' with_reducible apply And.intro) <;> first | assumption | rfl | omega)) ?_
    refine AO.segF tab_ok 6 (by decide) [(0, .sl Y0 specs), (1, .sl Y1 h0), (5, .bp 5 0), (23, .bool true), (24, .cv (undef)), (25, .cv (undef))] [(5, .box 58 [.int .u8 v0.1, .int .u8 v0.2.1, .int .u8 v0.2.2])] (by (simp only [go_sem, hb2]) <;> (repeat' with_reducible apply And.intro) <;> first | assumption | rfl | omega) ?_
    refine AO.segF tab_ok 6 (by decide) [(0, .sl Y0 specs), (1, .sl Y1 h0), (5, .bp 5 0), (29, .bool true), (31, .cv (undef))] [(5, .box 58 [.int .u8 v0.1, .int .u8 v0.2.1, .int .u8 v0.2.2])] (by (simp only [go_sem, hb2]) <;> (repeat' with_reducible apply And.intro) <;> first | assumption | rfl | omega) ?_
    refine AO.allF tab_ok (by decide) [(0, .sl Y0 specs), (1, .sl Y1 h0), (5, .bp 5 0), (33, .bool true)] [(5, .box 58 [.int .u8 v0.1, .int .u8 v0.2.1, .int .u8 v0.2.2])] (by (simp only [go_sem, hb2]) <;> (repeat' with_reducible apply And.intro) <;> first | assumption | rfl | omega) ?_
    refine athen_n ?_
    refine AW.cond (b := true) rfl (fun _ => ?_) (fun hb3 => by cases hb3)
    refine AW.seq ?_
    refine AW.ops ?_
    obtain ⟨v0_3, hv4, h⟩ := Option.bind_eq_some_iff.1 h
    refine AO.call tab_ok (by decide) rfl rfl rfl (fun _ h => h) [] [] (hc_lineallaw02_Sane hv4) rfl (by (simp only [go_sem, hb2]) <;> (repeat' with_reducible apply And.intro) <;> first | assumption | rfl | omega) (by (simp only [go_sem, hb2]) <;> (repeat' with_reducible apply And.intro) <;> first | assumption | rfl | omega) [(34, .bool v0_3)] [] (by (simp only [go_sem, hb2]) <;> (repeat' with_reducible apply And.intro) <;> first | assumption | rfl | omega) ?_
    refine AO.allF tab_ok (by decide) [(6, .bool v0_3)] [] (by (simp only [go_sem, hb2]) <;> (repeat' with_reducible apply And.intro) <;> first | assumption | rfl | omega) ?_
    refine athen_n ?_
    refine AW.ret ?_
    refine athen_r ?_
    obtain rfl := Option.some.inj h
    exact ⟨rfl, [], [], [], rfl, (by (simp only [go_sem, hb2]) <;> (repeat' with_reducible apply And.intro) <;> first | assumption | rfl | omega)⟩
  · rw [if_neg (Bool.eq_false_iff.1 hb2)] at h
    refine AO.weaken (s' := ⟨fr [(0, .sl Y0 specs), (1, .sl Y1 h0), (5, .bp 5 0), (19, .bool false)], hpGet [(5, .box 58 [.int .u8 v0.1, .int .u8 v0.2.1, .int .u8 v0.2.2])], gt⟩) (Wk.to (by (simp only [go_sem, hb2]) <;> (repeat' with_reducible apply And.intro) <;> first | assumption | rfl | omega)) ?_
    refine AO.segF tab_ok 1 (by decide) [(0, .sl Y0 specs), (1, .sl Y1 h0), (5, .bp 5 0), (19, .bool false), (20, .sl Y1 h0)] [(5, .box 58 [.int .u8 v0.1, .int .u8 v0.2.1, .int .u8 v0.2.2])] (by (simp only [go_sem, hb2]) <;> (repeat' with_reducible apply And.intro) <;> first | assumption | rfl | omega) ?_
    obtain ⟨v0_4, hv5, h⟩ := Option.bind_eq_some_iff.1 h
    refine AO.call tab_ok (by decide) rfl rfl rfl (fun _ h => ⟨fun _ => h, fun hn => absurd rfl hn⟩) [] [] (hc_lineallaw02_Long h0 hv5) rfl (by (simp only [go_sem, hb2]) <;> (repeat' with_reducible apply And.intro) <;> first | assumption | rfl | omega) (by (simp only [go_sem, hb2]) <;> (repeat' with_reducible apply And.intro) <;> first | assumption | rfl | omega) [(0, .sl Y0 specs), (1, .sl Y1 h0), (5, .bp 5 0), (19, .bool false), (21, .bool (decide (40 < (h0.length : Int))))] [(5, .box 58 [.int .u8 v0.1, .int .u8 v0.2.1, .int .u8 v0.2.2])] (by (simp only [go_sem, hb2]) <;> (repeat' with_reducible apply And.intro) <;> first | assumption | rfl | omega) ?_
    refine AO.segF tab_ok 2 (by decide) [(0, .sl Y0 specs), (1, .sl Y1 h0), (5, .bp 5 0), (23, .bool (decide (40 < (h0.length : Int))))] [(5, .box 58 [.int .u8 v0.1, .int .u8 v0.2.1, .int .u8 v0.2.2])] (by (simp only [go_sem, hb2]) <;> (repeat' with_reducible apply And.intro) <;> first | assumption | rfl | omega) ?_
    rcases Bool.eq_false_or_eq_true (decide (40 < (h0.length : Int))) with hb6 | hb6
    · rw [if_pos hb6] at h
      refine AO.weaken (s' := ⟨fr [(0, .sl Y0 specs), (1, .sl Y1 h0), (5, .bp 5 0), (23, .bool true)], hpGet [(5, .box 58 [.int .u8 v0.1, .int .u8 v0.2.1, .int .u8 v0.2.2])], gt⟩) (Wk.to (by (simp only [go_sem, hb2, hb6]) <;> (repeat' with_reducible apply And.intro) <;> first | assumption | rfl | omega)) ?_
      refine AO.segF tab_ok 4 (by decide) [(0, .sl Y0 specs), (1, .sl Y1 h0), (5, .bp 5 0), (23, .bool true), (27, .cv (undef))] [(5, .box 58 [.int .u8 v0.1, .int .u8 v0.2.1, .int .u8 v0.2.2])] (by (simp only [go_sem, hb2, hb6]) <;> (repeat' with_reducible apply And.intro) <;> first | assumption | rfl | omega) ?_
      refine AO.allF tab_ok (by decide) [(0, .sl Y0 specs), (1, .sl Y1 h0), (5, .bp 5 0), (33, .bool true)] [(5, .box 58 [.int .u8 v0.1, .int .u8 v0.2.1, .int .u8 v0.2.2])] (by (simp only [go_sem, hb2, hb6]) <;> (repeat' with_reducible apply And.intro) <;> first | assumption | rfl | omega) ?_
      refine athen_n ?_
      refine AW.cond (b := true) rfl (fun _ => ?_) (fun hb7 => by cases hb7)
      refine AW.seq ?_
      refine AW.ops ?_
      obtain ⟨v0_5, hv8, h⟩ := Option.bind_eq_some_iff.1 h
      refine AO.call tab_ok (by decide) rfl rfl rfl (fun _ h => h) [] [] (hc_lineallaw02_Sane hv8) rfl (by (simp only [go_sem, hb2, hb6]) <;> (repeat' with_reducible apply And.intro) <;> first | assumption | rfl | omega) (by (simp only [go_sem, hb2, hb6]) <;> (repeat' with_reducible apply And.intro) <;> first | assumption | rfl | omega) [(34, .bool v0_5)] [] (by (simp only [go_sem, hb2, hb6]) <;> (repeat' with_reducible apply And.intro) <;> first | assumption | rfl | omega) ?_
      refine AO.allF tab_ok (by decide) [(6, .bool v0_5)] [] (by (simp only [go_sem, hb2, hb6]) <;> (repeat' with_reducible apply And.intro) <;> first | assumption | rfl | omega) ?_
      refine athen_n ?_
      refine AW.ret ?_
      refine athen_r ?_
      obtain rfl := Option.some.inj h
      exact ⟨rfl, [], [], [], rfl, (by (simp only [go_sem, hb2, hb6]) <;> (repeat' with_reducible apply And.intro) <;> first | assumption | rfl | omega)⟩
    · rw [if_neg (Bool.eq_false_iff.1 hb6)] at h
      refine AO.weaken (s' := ⟨fr [(0, .sl Y0 specs), (1, .sl Y1 h0), (5, .bp 5 0), (23, .bool false)], hpGet [(5, .box 58 [.int .u8 v0.1, .int .u8 v0.2.1, .int .u8 v0.2.2])], gt⟩) (Wk.to (by (simp only [go_sem, hb2, hb6]) <;> (repeat' with_reducible apply And.intro) <;> first | assumption | rfl | omega)) ?_
      refine AO.segF tab_ok 2 (by decide) [(0, .sl Y0 specs), (1, .sl Y1 h0), (5, .bp 5 0), (23, .bool false), (24, .sl Y0 specs), (25, .sl Y1 h0)] [(5, .box 58 [.int .u8 v0.1, .int .u8 v0.2.1, .int .u8 v0.2.2])] (by (simp only [go_sem, hb2, hb6]) <;> (repeat' with_reducible apply And.intro) <;> first | assumption | rfl | omega) ?_
      obtain ⟨v0_6, hv9, h⟩ := Option.bind_eq_some_iff.1 h
      refine AO.call tab_ok (by decide) rfl rfl rfl (fun _ h => ⟨fun _ => h, fun hn => absurd rfl hn⟩) [] [] (hc_lineallaw02_isFor specs h0 hv9) rfl (by (simp only [go_sem, hb2, hb6]) <;> (repeat' with_reducible apply And.intro) <;> first | assumption | rfl | omega) (by (simp only [go_sem, hb2, hb6]) <;> (repeat' with_reducible apply And.intro) <;> first | assumption | rfl | omega) [(0, .sl Y0 specs), (1, .sl Y1 h0), (5, .bp 5 0), (23, .bool false), (26, .bool v0_6)] [(5, .box 58 [.int .u8 v0.1, .int .u8 v0.2.1, .int .u8 v0.2.2])] (by (simp only [go_sem, hb2, hb6]) <;> (repeat' with_reducible apply And.intro) <;> first | assumption | rfl | omega) ?_
      refine AO.segF tab_ok 3 (by decide) [(0, .sl Y0 specs), (1, .sl Y1 h0), (5, .bp 5 0), (29, .bool (!v0_6))] [(5, .box 58 [.int .u8 v0.1, .int .u8 v0.2.1, .int .u8 v0.2.2])] (by (simp only [go_sem, hb2, hb6]) <;> (repeat' with_reducible apply And.intro) <;> first | assumption | rfl | omega) ?_
      rcases Bool.eq_false_or_eq_true (!v0_6) with hb10 | hb10
      · rw [if_pos hb10] at h
        refine AO.weaken (s' := ⟨fr [(0, .sl Y0 specs), (1, .sl Y1 h0), (5, .bp 5 0), (29, .bool true)], hpGet [(5, .box 58 [.int .u8 v0.1, .int .u8 v0.2.1, .int .u8 v0.2.2])], gt⟩) (Wk.to (by (simp only [go_sem, hb2, hb6, hb10]) <;> (repeat' with_reducible apply And.intro) <;> first | assumption | rfl | omega)) ?_
        refine AO.allF tab_ok (by decide) [(0, .sl Y0 specs), (1, .sl Y1 h0), (5, .bp 5 0), (33, .bool true)] [(5, .box 58 [.int .u8 v0.1, .int .u8 v0.2.1, .int .u8 v0.2.2])] (by (simp only [go_sem, hb2, hb6, hb10]) <;> (repeat' with_reducible apply And.intro) <;> first | assumption | rfl | omega) ?_
        refine athen_n ?_
        refine AW.cond (b := true) rfl (fun _ => ?_) (fun hb11 => by cases hb11)
        refine AW.seq ?_
        refine AW.ops ?_
        obtain ⟨v0_7, hv12, h⟩ := Option.bind_eq_some_iff.1 h
        refine AO.call tab_ok (by decide) rfl rfl rfl (fun _ h => h) [] [] (hc_lineallaw02_Sane hv12) rfl (by (simp only [go_sem, hb2, hb6, hb10]) <;> (repeat' with_reducible apply And.intro) <;> first | assumption | rfl | omega) (by (simp only [go_sem, hb2, hb6, hb10]) <;> (repeat' with_reducible apply And.intro) <;> first | assumption | rfl | omega) [(34, .bool v0_7)] [] (by (simp only [go_sem, hb2, hb6, hb10]) <;> (repeat' with_reducible apply And.intro) <;> first | assumption | rfl | omega) ?_
        refine AO.allF tab_ok (by decide) [(6, .bool v0_7)] [] (by (simp only [go_sem, hb2, hb6, hb10]) <;> (repeat' with_reducible apply And.intro) <;> first | assumption | rfl | omega) ?_
        refine athen_n ?_
        refine AW.ret ?_
        refine athen_r ?_
        obtain rfl := Option.some.inj h
        exact ⟨rfl, [], [], [], rfl, (by (simp only [go_sem, hb2, hb6, hb10]) <;> (repeat' with_reducible apply And.intro) <;> first | assumption | rfl | omega)⟩
      · rw [if_neg (Bool.eq_false_iff.1 hb10)] at h
        refine AO.weaken (s' := ⟨fr [(0, .sl Y0 specs), (1, .sl Y1 h0), (5, .bp 5 0), (29, .bool false)], hpGet [(5, .box 58 [.int .u8 v0.1, .int .u8 v0.2.1, .int .u8 v0.2.2])], gt⟩) (Wk.to (by (simp only [go_sem, hb2, hb6, hb10]) <;> (repeat' with_reducible apply And.intro) <;> first | assumption | rfl | omega)) ?_
        refine AO.allF tab_ok (by decide) [(0, .sl Y0 specs), (1, .sl Y1 h0), (5, .bp 5 0), (33, .bool (decide ((h0.length : Int) = 0)))] [(5, .box 58 [.int .u8 v0.1, .int .u8 v0.2.1, .int .u8 v0.2.2])] (by (simp only [go_sem, hb2, hb6, hb10]) <;> (repeat' with_reducible apply And.intro) <;> first | assumption | rfl | omega) ?_
        refine athen_n ?_
        refine AW.cond (b := (decide ((h0.length : Int) = 0))) rfl (fun hb13 => ?_) (fun hb13 => ?_)
        · rw [if_pos hb13] at h
          refine AW.seq ?_
          refine AW.ops ?_
          obtain ⟨v0_8, hv14, h⟩ := Option.bind_eq_some_iff.1 h
          refine AO.call tab_ok (by decide) rfl rfl rfl (fun _ h => h) [] [] (hc_lineallaw02_Sane hv14) rfl (by (simp only [go_sem, hb2, hb6, hb10, hb13]) <;> (repeat' with_reducible apply And.intro) <;> first | assumption | rfl | omega) (by (simp only [go_sem, hb2, hb6, hb10, hb13]) <;> (repeat' with_reducible apply And.intro) <;> first | assumption | rfl | omega) [(34, .bool v0_8)] [] (by (simp only [go_sem, hb2, hb6, hb10, hb13]) <;> (repeat' with_reducible apply And.intro) <;> first | assumption | rfl | omega) ?_
          refine AO.allF tab_ok (by decide) [(6, .bool v0_8)] [] (by (simp only [go_sem, hb2, hb6, hb10, hb13]) <;> (repeat' with_reducible apply And.intro) <;> first | assumption | rfl | omega) ?_
          refine athen_n ?_
          refine AW.ret ?_
          refine athen_r ?_
          obtain rfl := Option.some.inj h
          exact ⟨rfl, [], [], [], rfl, (by (simp only [go_sem, hb2, hb6, hb10, hb13]) <;> (repeat' with_reducible apply And.intro) <;> first | assumption | rfl | omega)⟩
        · rw [if_neg (Bool.eq_false_iff.1 hb13)] at h
          refine AW.skip ?_
          refine athen_n ?_
          refine AW.seq ?_
          refine AW.ops ?_
          obtain ⟨c15, h⟩ := ck_some.1 h
          obtain ⟨c16, h⟩ := ck_some.1 h
          obtain ⟨c17, h⟩ := ck_some.1 h
          refine AO.allF tab_ok (by decide) [(0, .sl Y0 specs), (1, .sl Y1 h0), (5, .bp 5 0), (7, .int .i64 (v0.1 % (h0.length : Int)))] [(5, .box 58 [.int .u8 v0.1, .int .u8 v0.2.1, .int .u8 v0.2.2])] (by (simp only [go_sem, hb2, hb6, hb10, hb13]) <;> (repeat' with_reducible apply And.intro) <;> first | assumption | rfl | omega) ?_
          refine athen_n ?_
          refine AW.seq ?_
          refine AW.draw tab_ok mixed_ok [] [] (by decide) (by kernel_rfl) ?_
          obtain ⟨c19, h⟩ := ck_some.1 h
          obtain ⟨c20, h⟩ := ck_some.1 h
          refine adops_cut 6 (fun K' hK18 => ?_)
          try dsimp only [List.drop_succ_cons, List.drop_zero, List.take_succ_cons, List.take_zero]
          simp only [go_sem, hb2, hb6, hb10, hb13]
          repeat (with_reducible refine And.intro (by first | assumption | rfl | omega | trivial) ?_)
          refine hK18 _ ?_
          obtain ⟨c22, h⟩ := ck_some.1 h
          obtain ⟨c23, h⟩ := ck_some.1 h
          obtain ⟨c24, h⟩ := ck_some.1 h
          refine adops_cut 6 (fun K' hK21 => ?_)
          try dsimp only [List.drop_succ_cons, List.drop_zero, List.take_succ_cons, List.take_zero]
          simp only [go_sem, hb2, hb6, hb10, hb13]
          repeat (with_reducible refine And.intro (by first | assumption | rfl | omega | trivial) ?_)
          refine hK21 _ ?_
          obtain ⟨c26, h⟩ := ck_some.1 h
          obtain ⟨c27, h⟩ := ck_some.1 h
          refine adops_cut 6 (fun K' hK25 => ?_)
          try dsimp only [List.drop_succ_cons, List.drop_zero, List.take_succ_cons, List.take_zero]
          simp only [go_sem, hb2, hb6, hb10, hb13]
          repeat (with_reducible refine And.intro (by first | assumption | rfl | omega | trivial) ?_)
          refine hK25 _ ?_
          obtain ⟨c29, h⟩ := ck_some.1 h
          obtain ⟨c30, h⟩ := ck_some.1 h
          obtain ⟨c31, h⟩ := ck_some.1 h
          refine adops_cut 5 (fun K' hK28 => ?_)
          try dsimp only [List.drop_succ_cons, List.drop_zero, List.take_succ_cons, List.take_zero]
          simp only [go_sem, hb2, hb6, hb10, hb13]
          repeat (with_reducible refine And.intro (by first | assumption | rfl | omega | trivial) ?_)
          refine hK28 _ ?_
          refine adops_nil ?_
          refine athen_n ?_
          refine AW.weaken (s' := ⟨fr [(0, .sl Y0 specs), (1, .sl Y1 h0), (7, .int .i64 (v0.1 % (h0.length : Int))), (8, .int .i64 (max ((h0.getD (v0.1 % (h0.length : Int)).toNat (0, 0, 0, 0, 0, 0)).2.2.2.2.1 - (v0.2.1 % 8)) 1)), (9, .int .i64 ((h0.getD (v0.1 % (h0.length : Int)).toNat (0, 0, 0, 0, 0, 0)).2.2.2.2.2 + (v0.2.2 % 8)))], hpGet [], gt⟩) (Wk.to (by (simp only [go_sem, hb2, hb6, hb10, hb13]) <;> (repeat' with_reducible apply And.intro) <;> first | assumption | rfl | omega)) ?_
          refine AW.seq ?_
          refine AW.ops ?_
          refine AO.segF tab_ok 2 (by decide) [(0, .sl Y0 specs), (1, .sl Y1 h0), (7, .int .i64 (v0.1 % (h0.length : Int))), (8, .int .i64 (max ((h0.getD (v0.1 % (h0.length : Int)).toNat (0, 0, 0, 0, 0, 0)).2.2.2.2.1 - (v0.2.1 % 8)) 1)), (9, .int .i64 ((h0.getD (v0.1 % (h0.length : Int)).toNat (0, 0, 0, 0, 0, 0)).2.2.2.2.2 + (v0.2.2 % 8))), (63, .sl Y0 specs), (64, .sl Y1 h0)] [] (by (simp only [go_sem, hb2, hb6, hb10, hb13]) <;> (repeat' with_reducible apply And.intro) <;> first | assumption | rfl | omega) ?_
          obtain ⟨v0_9, hv32, h⟩ := Option.bind_eq_some_iff.1 h
          refine AO.call tab_ok (by decide) rfl rfl rfl (fun _ h => h) [] [] (hc_history_Linear specs h0 hv32) rfl (by (simp only [go_sem, hb2, hb6, hb10, hb13]) <;> (repeat' with_reducible apply And.intro) <;> first | assumption | rfl | omega) (by (simp only [go_sem, hb2, hb6, hb10, hb13]) <;> (repeat' with_reducible apply And.intro) <;> first | assumption | rfl | omega) [(0, .sl Y0 specs), (1, .sl Y1 h0), (7, .int .i64 (v0.1 % (h0.length : Int))), (8, .int .i64 (max ((h0.getD (v0.1 % (h0.length : Int)).toNat (0, 0, 0, 0, 0, 0)).2.2.2.2.1 - (v0.2.1 % 8)) 1)), (9, .int .i64 ((h0.getD (v0.1 % (h0.length : Int)).toNat (0, 0, 0, 0, 0, 0)).2.2.2.2.2 + (v0.2.2 % 8))), (65, .tup [.bool v0_9.1, .int .i64 v0_9.2])] [] (by (simp only [go_sem, hb2, hb6, hb10, hb13]) <;> (repeat' with_reducible apply And.intro) <;> first | assumption | rfl | omega) ?_
          refine AO.allF tab_ok (by decide) [(0, .sl Y0 specs), (1, .sl Y1 h0), (7, .int .i64 (v0.1 % (h0.length : Int))), (8, .int .i64 (max ((h0.getD (v0.1 % (h0.length : Int)).toNat (0, 0, 0, 0, 0, 0)).2.2.2.2.1 - (v0.2.1 % 8)) 1)), (9, .int .i64 ((h0.getD (v0.1 % (h0.length : Int)).toNat (0, 0, 0, 0, 0, 0)).2.2.2.2.2 + (v0.2.2 % 8))), (10, .bool v0_9.1), (11, .int .i64 v0_9.2)] [] (by (simp only [go_sem, hb2, hb6, hb10, hb13]) <;> (repeat' with_reducible apply And.intro) <;> first | assumption | rfl | omega) ?_
          refine athen_n ?_
          refine AW.seq ?_
          refine AW.ops ?_
          refine AO.segF tab_ok 2 (by decide) [(0, .sl Y0 specs), (1, .sl Y1 h0), (7, .int .i64 (v0.1 % (h0.length : Int))), (8, .int .i64 (max ((h0.getD (v0.1 % (h0.length : Int)).toNat (0, 0, 0, 0, 0, 0)).2.2.2.2.1 - (v0.2.1 % 8)) 1)), (9, .int .i64 ((h0.getD (v0.1 % (h0.length : Int)).toNat (0, 0, 0, 0, 0, 0)).2.2.2.2.2 + (v0.2.2 % 8))), (10, .bool v0_9.1), (11, .int .i64 v0_9.2), (69, .sl Y0 specs), (70, .sl Y1 h0)] [] (by (simp only [go_sem, hb2, hb6, hb10, hb13]) <;> (repeat' with_reducible apply And.intro) <;> first | assumption | rfl | omega) ?_
          obtain ⟨v0_10, hv33, h⟩ := Option.bind_eq_some_iff.1 h
          refine AO.call tab_ok (by decide) rfl rfl rfl (fun _ h => h) [] [] (hc_history_Orders specs h0 hv33) rfl (by (simp only [go_sem, hb2, hb6, hb10, hb13]) <;> (repeat' with_reducible apply And.intro) <;> first | assumption | rfl | omega) (by (simp only [go_sem, hb2, hb6, hb10, hb13]) <;> (repeat' with_reducible apply And.intro) <;> first | assumption | rfl | omega) [(0, .sl Y0 specs), (1, .sl Y1 h0), (7, .int .i64 (v0.1 % (h0.length : Int))), (8, .int .i64 (max ((h0.getD (v0.1 % (h0.length : Int)).toNat (0, 0, 0, 0, 0, 0)).2.2.2.2.1 - (v0.2.1 % 8)) 1)), (9, .int .i64 ((h0.getD (v0.1 % (h0.length : Int)).toNat (0, 0, 0, 0, 0, 0)).2.2.2.2.2 + (v0.2.2 % 8))), (10, .bool v0_9.1), (11, .int .i64 v0_9.2), (71, .tup [.int .i64 v0_10.1, .int .i64 v0_10.2])] [] (by (simp only [go_sem, hb2, hb6, hb10, hb13]) <;> (repeat' with_reducible apply And.intro) <;> first | assumption | rfl | omega) ?_
          refine AO.allF tab_ok (by decide) [(0, .sl Y0 specs), (1, .sl Y1 h0), (7, .int .i64 (v0.1 % (h0.length : Int))), (8, .int .i64 (max ((h0.getD (v0.1 % (h0.length : Int)).toNat (0, 0, 0, 0, 0, 0)).2.2.2.2.1 - (v0.2.1 % 8)) 1)), (9, .int .i64 ((h0.getD (v0.1 % (h0.length : Int)).toNat (0, 0, 0, 0, 0, 0)).2.2.2.2.2 + (v0.2.2 % 8))), (10, .bool v0_9.1), (11, .int .i64 v0_9.2), (12, .int .i64 v0_10.1), (13, .int .i64 v0_10.2)] [] (by (simp only [go_sem, hb2, hb6, hb10, hb13]) <;> (repeat' with_reducible apply And.intro) <;> first | assumption | rfl | omega) ?_
          refine athen_n ?_
          refine AW.seq ?_
          refine AW.seq ?_
          refine AW.ops ?_
          refine AO.segF tab_ok 3 (by decide) [(0, .sl Y0 specs), (1, .sl Y1 h0), (7, .int .i64 (v0.1 % (h0.length : Int))), (8, .int .i64 (max ((h0.getD (v0.1 % (h0.length : Int)).toNat (0, 0, 0, 0, 0, 0)).2.2.2.2.1 - (v0.2.1 % 8)) 1)), (9, .int .i64 ((h0.getD (v0.1 % (h0.length : Int)).toNat (0, 0, 0, 0, 0, 0)).2.2.2.2.2 + (v0.2.2 % 8))), (10, .bool v0_9.1), (12, .int .i64 v0_10.1), (13, .int .i64 v0_10.2), (76, .bool (!(decide (v0_9.2 = 0))))] [] (by (simp only [go_sem, hb2, hb6, hb10, hb13]) <;> (repeat' with_reducible apply And.intro) <;> first | assumption | rfl | omega) ?_
          rcases Bool.eq_false_or_eq_true (!(decide (v0_9.2 = 0))) with hb34 | hb34
          · rw [if_pos hb34] at h
            refine AO.weaken (s' := ⟨fr [(0, .sl Y0 specs), (1, .sl Y1 h0), (7, .int .i64 (v0.1 % (h0.length : Int))), (8, .int .i64 (max ((h0.getD (v0.1 % (h0.length : Int)).toNat (0, 0, 0, 0, 0, 0)).2.2.2.2.1 - (v0.2.1 % 8)) 1)), (9, .int .i64 ((h0.getD (v0.1 % (h0.length : Int)).toNat (0, 0, 0, 0, 0, 0)).2.2.2.2.2 + (v0.2.2 % 8))), (10, .bool v0_9.1), (12, .int .i64 v0_10.1), (13, .int .i64 v0_10.2), (76, .bool true)], hpGet [], gt⟩) (Wk.to (by (simp only [go_sem, hb2, hb6, hb10, hb13, hb34]) <;> (repeat' with_reducible apply And.intro) <;> first | assumption | rfl | omega)) ?_
            refine AO.allF tab_ok (by decide) [(0, .sl Y0 specs), (1, .sl Y1 h0), (7, .int .i64 (v0.1 % (h0.length : Int))), (8, .int .i64 (max ((h0.getD (v0.1 % (h0.length : Int)).toNat (0, 0, 0, 0, 0, 0)).2.2.2.2.1 - (v0.2.1 % 8)) 1)), (9, .int .i64 ((h0.getD (v0.1 % (h0.length : Int)).toNat (0, 0, 0, 0, 0, 0)).2.2.2.2.2 + (v0.2.2 % 8))), (10, .bool v0_9.1), (12, .int .i64 v0_10.1), (79, .bool true)] [] (by (simp only [go_sem, hb2, hb6, hb10, hb13, hb34]) <;> (repeat' with_reducible apply And.intro) <;> first | assumption | rfl | omega) ?_
            refine athen_n ?_
            refine AW.cond (b := true) rfl (fun _ => ?_) (fun hb35 => by cases hb35)
            refine AW.seq ?_
            refine AW.ops ?_
            refine AO.allF tab_ok (by decide) [(6, .bool false)] [] (by (simp only [go_sem, hb2, hb6, hb10, hb13, hb34]) <;> (repeat' with_reducible apply And.intro) <;> first | assumption | rfl | omega) ?_
            refine athen_n ?_
            refine AW.ret ?_
            refine athen_r ?_
            obtain rfl := Option.some.inj h
            exact ⟨rfl, [], [], [], rfl, (by (simp only [go_sem, hb2, hb6, hb10, hb13, hb34]) <;> (repeat' with_reducible apply And.intro) <;> first | assumption | rfl | omega)⟩
          · rw [if_neg (Bool.eq_false_iff.1 hb34)] at h
            refine AO.weaken (s' := ⟨fr [(0, .sl Y0 specs), (1, .sl Y1 h0), (7, .int .i64 (v0.1 % (h0.length : Int))), (8, .int .i64 (max ((h0.getD (v0.1 % (h0.length : Int)).toNat (0, 0, 0, 0, 0, 0)).2.2.2.2.1 - (v0.2.1 % 8)) 1)), (9, .int .i64 ((h0.getD (v0.1 % (h0.length : Int)).toNat (0, 0, 0, 0, 0, 0)).2.2.2.2.2 + (v0.2.2 % 8))), (10, .bool v0_9.1), (12, .int .i64 v0_10.1), (13, .int .i64 v0_10.2), (76, .bool false)], hpGet [], gt⟩) (Wk.to (by (simp only [go_sem, hb2, hb6, hb10, hb13, hb34]) <;> (repeat' with_reducible apply And.intro) <;> first | assumption | rfl | omega)) ?_
            refine AO.allF tab_ok (by decide) [(0, .sl Y0 specs), (1, .sl Y1 h0), (7, .int .i64 (v0.1 % (h0.length : Int))), (8, .int .i64 (max ((h0.getD (v0.1 % (h0.length : Int)).toNat (0, 0, 0, 0, 0, 0)).2.2.2.2.1 - (v0.2.1 % 8)) 1)), (9, .int .i64 ((h0.getD (v0.1 % (h0.length : Int)).toNat (0, 0, 0, 0, 0, 0)).2.2.2.2.2 + (v0.2.2 % 8))), (10, .bool v0_9.1), (12, .int .i64 v0_10.1), (79, .bool (!(decide (v0_10.2 = 0))))] [] (by (simp only [go_sem, hb2, hb6, hb10, hb13, hb34]) <;> (repeat' with_reducible apply And.intro) <;> first | assumption | rfl | omega) ?_
            refine athen_n ?_
            refine AW.cond (b := (!(decide (v0_10.2 = 0)))) rfl (fun hb36 => ?_) (fun hb36 => ?_)
            · rw [if_pos hb36] at h
              refine AW.seq ?_
              refine AW.ops ?_
              refine AO.allF tab_ok (by decide) [(6, .bool false)] [] (by (simp only [go_sem, hb2, hb6, hb10, hb13, hb34, hb36]) <;> (repeat' with_reducible apply And.intro) <;> first | assumption | rfl | omega) ?_
              refine athen_n ?_
              refine AW.ret ?_
              refine athen_r ?_
              obtain rfl := Option.some.inj h
              exact ⟨rfl, [], [], [], rfl, (by (simp only [go_sem, hb2, hb6, hb10, hb13, hb34, hb36]) <;> (repeat' with_reducible apply And.intro) <;> first | assumption | rfl | omega)⟩
            · rw [if_neg (Bool.eq_false_iff.1 hb36)] at h
              refine AW.skip ?_
              refine athen_n ?_
              refine AW.seq ?_
              refine AW.ops ?_
              refine AO.segF tab_ok 4 (by decide) [(0, .sl Y0 specs), (10, .bool v0_9.1), (12, .int .i64 v0_10.1), (81, .sl Y1 h0), (82, .int .i64 (v0.1 % (h0.length : Int))), (83, .int .i64 (max ((h0.getD (v0.1 % (h0.length : Int)).toNat (0, 0, 0, 0, 0, 0)).2.2.2.2.1 - (v0.2.1 % 8)) 1)), (84, .int .i64 ((h0.getD (v0.1 % (h0.length : Int)).toNat (0, 0, 0, 0, 0, 0)).2.2.2.2.2 + (v0.2.2 % 8)))] [] (by (simp only [go_sem, hb2, hb6, hb10, hb13, hb34, hb36]) <;> (repeat' with_reducible apply And.intro) <;> first | assumption | rfl | omega) ?_
              obtain ⟨v0_11, hv37, h⟩ := Option.bind_eq_some_iff.1 h
              refine AO.call tab_ok (by decide) rfl rfl rfl (fun _ h => h) [] [] (hc_history_Longer h0 (v0.1 % (h0.length : Int)) (max ((h0.getD (v0.1 % (h0.length : Int)).toNat (0, 0, 0, 0, 0, 0)).2.2.2.2.1 - (v0.2.1 % 8)) 1) ((h0.getD (v0.1 % (h0.length : Int)).toNat (0, 0, 0, 0, 0, 0)).2.2.2.2.2 + (v0.2.2 % 8)) hv37) rfl (by (simp only [go_sem, hb2, hb6, hb10, hb13, hb34, hb36]) <;> (repeat' with_reducible apply And.intro) <;> first | assumption | rfl | omega) (by (simp only [go_sem, hb2, hb6, hb10, hb13, hb34, hb36]) <;> (repeat' with_reducible apply And.intro) <;> first | assumption | rfl | omega) [(0, .sl Y0 specs), (10, .bool v0_9.1), (12, .int .i64 v0_10.1), (85, .tup [.own 95000, .int .i64 v0_11.2])] [(95000, .arr 55 Y1 v0_11.1)] (by (simp only [go_sem, hb2, hb6, hb10, hb13, hb34, hb36]) <;> (repeat' with_reducible apply And.intro) <;> first | assumption | rfl | omega) ?_
              refine AO.allF tab_ok (by decide) [(0, .sl Y0 specs), (10, .bool v0_9.1), (11, .int .i64 v0_11.2), (12, .int .i64 v0_10.1), (14, .own 95000)] [(95000, .arr 55 Y1 v0_11.1)] (by (simp only [go_sem, hb2, hb6, hb10, hb13, hb34, hb36]) <;> (repeat' with_reducible apply And.intro) <;> first | assumption | rfl | omega) ?_
              refine athen_n ?_
              refine AW.seq ?_
              refine AW.seq ?_
              refine AW.ops ?_
              refine AO.allF tab_ok (by decide) [(0, .sl Y0 specs), (10, .bool v0_9.1), (11, .int .i64 v0_11.2), (12, .int .i64 v0_10.1), (14, .own 95000), (89, .bool (!(decide (v0_11.2 = 0))))] [(95000, .arr 55 Y1 v0_11.1)] (by (simp only [go_sem, hb2, hb6, hb10, hb13, hb34, hb36]) <;> (repeat' with_reducible apply And.intro) <;> first | assumption | rfl | omega) ?_
              refine athen_n ?_
              refine AW.cond (b := (!(decide (v0_11.2 = 0)))) rfl (fun hb38 => ?_) (fun hb38 => ?_)
              · rw [if_pos hb38] at h
                refine AW.seq ?_
                refine AW.ops ?_
                refine AO.segF tab_ok 3 (by decide) [(14, .own 95000), (92, .bool (decide (v0_11.2 = 2)))] [(95000, .arr 55 Y1 v0_11.1)] (by (simp only [go_sem, hb2, hb6, hb10, hb13, hb34, hb36, hb38]) <;> (repeat' with_reducible apply And.intro) <;> first | assumption | rfl | omega) ?_
                rcases Bool.eq_false_or_eq_true (decide (v0_11.2 = 2)) with hb39 | hb39
                · rw [if_pos hb39] at h
                  refine AO.weaken (s' := ⟨fr [(14, .own 95000), (92, .bool true)], hpGet [(95000, .arr 55 Y1 v0_11.1)], gt⟩) (Wk.to (by (simp only [go_sem, hb2, hb6, hb10, hb13, hb34, hb36, hb38, hb39]) <;> (repeat' with_reducible apply And.intro) <;> first | assumption | rfl | omega)) ?_
                  refine AO.segF tab_ok 5 (by decide) [(97, .bool (decide ((v0_11.1.length : Int) = 0)))] [] (by (simp only [go_sem, hb2, hb6, hb10, hb13, hb34, hb36, hb38, hb39]) <;> (repeat' with_reducible apply And.intro) <;> first | assumption | rfl | omega) ?_
                  rcases Bool.eq_false_or_eq_true (decide ((v0_11.1.length : Int) = 0)) with hb40 | hb40
                  · rw [if_pos hb40] at h
                    refine AO.weaken (s' := ⟨fr [(97, .bool true)], hpGet [], gt⟩) (Wk.to (by (simp only [go_sem, hb2, hb6, hb10, hb13, hb34, hb36, hb38, hb39, hb40]) <;> (repeat' with_reducible apply And.intro) <;> first | assumption | rfl | omega)) ?_
                    obtain ⟨v0_12, hv41, h⟩ := Option.bind_eq_some_iff.1 h
                    refine AO.call tab_ok (by decide) rfl rfl rfl (fun _ h => ⟨fun _ => h, fun hn => absurd rfl hn⟩) [] [] (hc_lineallaw02_Sane hv41) rfl (by (simp only [go_sem, hb2, hb6, hb10, hb13, hb34, hb36, hb38, hb39, hb40]) <;> (repeat' with_reducible apply And.intro) <;> first | assumption | rfl | omega) (by (simp only [go_sem, hb2, hb6, hb10, hb13, hb34, hb36, hb38, hb39, hb40]) <;> (repeat' with_reducible apply And.intro) <;> first | assumption | rfl | omega) [(97, .bool true), (98, .bool v0_12)] [] (by (simp only [go_sem, hb2, hb6, hb10, hb13, hb34, hb36, hb38, hb39, hb40]) <;> (repeat' with_reducible apply And.intro) <;> first | assumption | rfl | omega) ?_
                    refine AO.allF tab_ok (by decide) [(6, .bool v0_12)] [] (by (simp only [go_sem, hb2, hb6, hb10, hb13, hb34, hb36, hb38, hb39, hb40]) <;> (repeat' with_reducible apply And.intro) <;> first | assumption | rfl | omega) ?_
                    refine athen_n ?_
                    refine AW.ret ?_
                    refine athen_r ?_
                    obtain rfl := Option.some.inj h
                    exact ⟨rfl, [], [], [], rfl, (by (simp only [go_sem, hb2, hb6, hb10, hb13, hb34, hb36, hb38, hb39, hb40]) <;> (repeat' with_reducible apply And.intro) <;> first | assumption | rfl | omega)⟩
                  · rw [if_neg (Bool.eq_false_iff.1 hb40)] at h
                    refine AO.weaken (s' := ⟨fr [(97, .bool false)], hpGet [], gt⟩) (Wk.to (by (simp only [go_sem, hb2, hb6, hb10, hb13, hb34, hb36, hb38, hb39, hb40]) <;> (repeat' with_reducible apply And.intro) <;> first | assumption | rfl | omega)) ?_
                    refine AO.allF tab_ok (by decide) [(6, .bool false)] [] (by (simp only [go_sem, hb2, hb6, hb10, hb13, hb34, hb36, hb38, hb39, hb40]) <;> (repeat' with_reducible apply And.intro) <;> first | assumption | rfl | omega) ?_
                    refine athen_n ?_
                    refine AW.ret ?_
                    refine athen_r ?_
                    obtain rfl := Option.some.inj h
                    exact ⟨rfl, [], [], [], rfl, (by (simp only [go_sem, hb2, hb6, hb10, hb13, hb34, hb36, hb38, hb39, hb40]) <;> (repeat' with_reducible apply And.intro) <;> first | assumption | rfl | omega)⟩
                · rw [if_neg (Bool.eq_false_iff.1 hb39)] at h
                  refine AO.weaken (s' := ⟨fr [(14, .own 95000), (92, .bool false)], hpGet [(95000, .arr 55 Y1 v0_11.1)], gt⟩) (Wk.to (by (simp only [go_sem, hb2, hb6, hb10, hb13, hb34, hb36, hb38, hb39]) <;> (repeat' with_reducible apply And.intro) <;> first | assumption | rfl | omega)) ?_
                  refine AO.segF tab_ok 6 (by decide) [(97, .bool false), (98, .cv (undef))] [] (by (simp only [go_sem, hb2, hb6, hb10, hb13, hb34, hb36, hb38, hb39]) <;> (repeat' with_reducible apply And.intro) <;> first | assumption | rfl | omega) ?_
                  refine AO.allF tab_ok (by decide) [(6, .bool false)] [] (by (simp only [go_sem, hb2, hb6, hb10, hb13, hb34, hb36, hb38, hb39]) <;> (repeat' with_reducible apply And.intro) <;> first | assumption | rfl | omega) ?_
                  refine athen_n ?_
                  refine AW.ret ?_
                  refine athen_r ?_
                  obtain rfl := Option.some.inj h
                  exact ⟨rfl, [], [], [], rfl, (by (simp only [go_sem, hb2, hb6, hb10, hb13, hb34, hb36, hb38, hb39]) <;> (repeat' with_reducible apply And.intro) <;> first | assumption | rfl | omega)⟩
              · rw [if_neg (Bool.eq_false_iff.1 hb38)] at h
                refine AW.skip ?_
                refine athen_n ?_
                refine AW.seq ?_
                refine AW.ops ?_
                refine AO.segF tab_ok 2 (by decide) [(0, .sl Y0 specs), (10, .bool v0_9.1), (12, .int .i64 v0_10.1), (14, .own 95000), (101, .sl Y0 specs), (102, .own 95000)] [(95000, .arr 55 Y1 v0_11.1)] (by (simp only [go_sem, hb2, hb6, hb10, hb13, hb34, hb36, hb38]) <;> (repeat' with_reducible apply And.intro) <;> first | assumption | rfl | omega) ?_
                obtain ⟨v0_13, hv42, h⟩ := Option.bind_eq_some_iff.1 h
                refine AO.call tab_ok (by decide) rfl rfl rfl (fun _ h => h) [95000] [] (hc_history_Linear specs v0_11.1 hv42) rfl (by (simp only [go_sem, hb2, hb6, hb10, hb13, hb34, hb36, hb38]) <;> (repeat' with_reducible apply And.intro) <;> first | assumption | rfl | omega) (by (simp only [go_sem, hb2, hb6, hb10, hb13, hb34, hb36, hb38]) <;> (repeat' with_reducible apply And.intro) <;> first | assumption | rfl | omega) [(0, .sl Y0 specs), (10, .bool v0_9.1), (12, .int .i64 v0_10.1), (14, .own 95000), (103, .tup [.bool v0_13.1, .int .i64 v0_13.2])] [(95000, .arr 55 Y1 v0_11.1)] (by (simp only [go_sem, hb2, hb6, hb10, hb13, hb34, hb36, hb38]) <;> (repeat' with_reducible apply And.intro) <;> first | assumption | rfl | omega) ?_
                refine AO.allF tab_ok (by decide) [(0, .sl Y0 specs), (10, .bool v0_9.1), (11, .int .i64 v0_13.2), (12, .int .i64 v0_10.1), (14, .own 95000), (15, .bool v0_13.1)] [(95000, .arr 55 Y1 v0_11.1)] (by (simp only [go_sem, hb2, hb6, hb10, hb13, hb34, hb36, hb38]) <;> (repeat' with_reducible apply And.intro) <;> first | assumption | rfl | omega) ?_
                refine athen_n ?_
                refine AW.seq ?_
                refine AW.ops ?_
                refine AO.segF tab_ok 2 (by decide) [(10, .bool v0_9.1), (11, .int .i64 v0_13.2), (12, .int .i64 v0_10.1), (15, .bool v0_13.1), (107, .sl Y0 specs), (108, .own 95000)] [(95000, .arr 55 Y1 v0_11.1)] (by (simp only [go_sem, hb2, hb6, hb10, hb13, hb34, hb36, hb38]) <;> (repeat' with_reducible apply And.intro) <;> first | assumption | rfl | omega) ?_
                obtain ⟨v0_14, hv43, h⟩ := Option.bind_eq_some_iff.1 h
                refine AO.call tab_ok (by decide) rfl rfl rfl (fun _ h => h) [95000] [] (hc_history_Orders specs v0_11.1 hv43) rfl (by (simp only [go_sem, hb2, hb6, hb10, hb13, hb34, hb36, hb38]) <;> (repeat' with_reducible apply And.intro) <;> first | assumption | rfl | omega) (by (simp only [go_sem, hb2, hb6, hb10, hb13, hb34, hb36, hb38]) <;> (repeat' with_reducible apply And.intro) <;> first | assumption | rfl | omega) [(10, .bool v0_9.1), (11, .int .i64 v0_13.2), (12, .int .i64 v0_10.1), (15, .bool v0_13.1), (109, .tup [.int .i64 v0_14.1, .int .i64 v0_14.2])] [] (by (simp only [go_sem, hb2, hb6, hb10, hb13, hb34, hb36, hb38]) <;> (repeat' with_reducible apply And.intro) <;> first | assumption | rfl | omega) ?_
                refine AO.allF tab_ok (by decide) [(10, .bool v0_9.1), (11, .int .i64 v0_13.2), (12, .int .i64 v0_10.1), (13, .int .i64 v0_14.2), (15, .bool v0_13.1), (16, .int .i64 v0_14.1)] [] (by (simp only [go_sem, hb2, hb6, hb10, hb13, hb34, hb36, hb38]) <;> (repeat' with_reducible apply And.intro) <;> first | assumption | rfl | omega) ?_
                refine athen_n ?_
                refine AW.seq ?_
                refine AW.ops ?_
                refine AO.segF tab_ok 3 (by decide) [(10, .bool v0_9.1), (12, .int .i64 v0_10.1), (13, .int .i64 v0_14.2), (15, .bool v0_13.1), (16, .int .i64 v0_14.1), (114, .bool (decide (v0_13.2 = 0)))] [] (by (simp only [go_sem, hb2, hb6, hb10, hb13, hb34, hb36, hb38]) <;> (repeat' with_reducible apply And.intro) <;> first | assumption | rfl | omega) ?_
                rcases Bool.eq_false_or_eq_true (decide (v0_13.2 = 0)) with hb44 | hb44
                · rw [if_pos hb44] at h
                  refine AO.weaken (s' := ⟨fr [(10, .bool v0_9.1), (12, .int .i64 v0_10.1), (13, .int .i64 v0_14.2), (15, .bool v0_13.1), (16, .int .i64 v0_14.1), (114, .bool true)], hpGet [], gt⟩) (Wk.to (by (simp only [go_sem, hb2, hb6, hb10, hb13, hb34, hb36, hb38, hb44]) <;> (repeat' with_reducible apply And.intro) <;> first | assumption | rfl | omega)) ?_
                  refine AO.segF tab_ok 4 (by decide) [(10, .bool v0_9.1), (12, .int .i64 v0_10.1), (15, .bool v0_13.1), (16, .int .i64 v0_14.1), (118, .bool (decide (v0_14.2 = 0)))] [] (by (simp only [go_sem, hb2, hb6, hb10, hb13, hb34, hb36, hb38, hb44]) <;> (repeat' with_reducible apply And.intro) <;> first | assumption | rfl | omega) ?_
                  rcases Bool.eq_false_or_eq_true (decide (v0_14.2 = 0)) with hb45 | hb45
                  · rw [if_pos hb45] at h
                    refine AO.weaken (s' := ⟨fr [(10, .bool v0_9.1), (12, .int .i64 v0_10.1), (15, .bool v0_13.1), (16, .int .i64 v0_14.1), (118, .bool true)], hpGet [], gt⟩) (Wk.to (by (simp only [go_sem, hb2, hb6, hb10, hb13, hb34, hb36, hb38, hb44, hb45]) <;> (repeat' with_reducible apply And.intro) <;> first | assumption | rfl | omega)) ?_
                    refine AO.segF tab_ok 3 (by decide) [(12, .int .i64 v0_10.1), (15, .bool v0_13.1), (16, .int .i64 v0_14.1), (118, .bool true), (121, .bool (!v0_9.1))] [] (by (simp only [go_sem, hb2, hb6, hb10, hb13, hb34, hb36, hb38, hb44, hb45]) <;> (repeat' with_reducible apply And.intro) <;> first | assumption | rfl | omega) ?_
                    rcases Bool.eq_false_or_eq_true (!v0_9.1) with hb46 | hb46
                    · rw [if_pos hb46] at h
                      refine AO.weaken (s' := ⟨fr [(12, .int .i64 v0_10.1), (15, .bool v0_13.1), (16, .int .i64 v0_14.1), (118, .bool true), (121, .bool true)], hpGet [], gt⟩) (Wk.to (by (simp only [go_sem, hb2, hb6, hb10, hb13, hb34, hb36, hb38, hb44, hb45, hb46]) <;> (repeat' with_reducible apply And.intro) <;> first | assumption | rfl | omega)) ?_
                      refine AO.segF tab_ok 9 (by decide) [(130, .bool (decide (v0_10.1 ≤ v0_14.1)))] [] (by (simp only [go_sem, hb2, hb6, hb10, hb13, hb34, hb36, hb38, hb44, hb45, hb46]) <;> (repeat' with_reducible apply And.intro) <;> first | assumption | rfl | omega) ?_
                      rcases Bool.eq_false_or_eq_true (decide (v0_10.1 ≤ v0_14.1)) with hb47 | hb47
                      · rw [if_pos hb47] at h
                        refine AO.weaken (s' := ⟨fr [(130, .bool true)], hpGet [], gt⟩) (Wk.to (by (simp only [go_sem, hb2, hb6, hb10, hb13, hb34, hb36, hb38, hb44, hb45, hb46, hb47]) <;> (repeat' with_reducible apply And.intro) <;> first | assumption | rfl | omega)) ?_
                        obtain ⟨v0_15, hv48, h⟩ := Option.bind_eq_some_iff.1 h
                        refine AO.call tab_ok (by decide) rfl rfl rfl (fun _ h => ⟨fun _ => h, fun hn => absurd rfl hn⟩) [] [] (hc_lineallaw02_Sane hv48) rfl (by (simp only [go_sem, hb2, hb6, hb10, hb13, hb34, hb36, hb38, hb44, hb45, hb46, hb47]) <;> (repeat' with_reducible apply And.intro) <;> first | assumption | rfl | omega) (by (simp only [go_sem, hb2, hb6, hb10, hb13, hb34, hb36, hb38, hb44, hb45, hb46, hb47]) <;> (repeat' with_reducible apply And.intro) <;> first | assumption | rfl | omega) [(130, .bool true), (131, .bool v0_15)] [] (by (simp only [go_sem, hb2, hb6, hb10, hb13, hb34, hb36, hb38, hb44, hb45, hb46, hb47]) <;> (repeat' with_reducible apply And.intro) <;> first | assumption | rfl | omega) ?_
                        refine AO.allF tab_ok (by decide) [(6, .bool v0_15)] [] (by (simp only [go_sem, hb2, hb6, hb10, hb13, hb34, hb36, hb38, hb44, hb45, hb46, hb47]) <;> (repeat' with_reducible apply And.intro) <;> first | assumption | rfl | omega) ?_
                        refine athen_n ?_
                        refine AW.ret ?_
                        obtain rfl := Option.some.inj h
                        exact ⟨rfl, [], [], [], rfl, (by (simp only [go_sem, hb2, hb6, hb10, hb13, hb34, hb36, hb38, hb44, hb45, hb46, hb47]) <;> (repeat' with_reducible apply And.intro) <;> first | assumption | rfl | omega)⟩
                      · rw [if_neg (Bool.eq_false_iff.1 hb47)] at h
                        refine AO.weaken (s' := ⟨fr [(130, .bool false)], hpGet [], gt⟩) (Wk.to (by (simp only [go_sem, hb2, hb6, hb10, hb13, hb34, hb36, hb38, hb44, hb45, hb46, hb47]) <;> (repeat' with_reducible apply And.intro) <;> first | assumption | rfl | omega)) ?_
                        refine AO.allF tab_ok (by decide) [(6, .bool false)] [] (by (simp only [go_sem, hb2, hb6, hb10, hb13, hb34, hb36, hb38, hb44, hb45, hb46, hb47]) <;> (repeat' with_reducible apply And.intro) <;> first | assumption | rfl | omega) ?_
                        refine athen_n ?_
                        refine AW.ret ?_
                        obtain rfl := Option.some.inj h
                        exact ⟨rfl, [], [], [], rfl, (by (simp only [go_sem, hb2, hb6, hb10, hb13, hb34, hb36, hb38, hb44, hb45, hb46, hb47]) <;> (repeat' with_reducible apply And.intro) <;> first | assumption | rfl | omega)⟩
                    · rw [if_neg (Bool.eq_false_iff.1 hb46)] at h
                      refine AO.weaken (s' := ⟨fr [(12, .int .i64 v0_10.1), (15, .bool v0_13.1), (16, .int .i64 v0_14.1), (118, .bool true), (121, .bool false)], hpGet [], gt⟩) (Wk.to (by (simp only [go_sem, hb2, hb6, hb10, hb13, hb34, hb36, hb38, hb44, hb45, hb46]) <;> (repeat' with_reducible apply And.intro) <;> first | assumption | rfl | omega)) ?_
                      refine AO.segF tab_ok 4 (by decide) [(12, .int .i64 v0_10.1), (16, .int .i64 v0_14.1), (125, .bool v0_13.1)] [] (by (simp only [go_sem, hb2, hb6, hb10, hb13, hb34, hb36, hb38, hb44, hb45, hb46]) <;> (repeat' with_reducible apply And.intro) <;> first | assumption | rfl | omega) ?_
                      rcases Bool.eq_false_or_eq_true v0_13.1 with hb49 | hb49
                      · rw [if_pos hb49] at h
                        refine AO.weaken (s' := ⟨fr [(12, .int .i64 v0_10.1), (16, .int .i64 v0_14.1), (125, .bool true)], hpGet [], gt⟩) (Wk.to (by (simp only [go_sem, hb2, hb6, hb10, hb13, hb34, hb36, hb38, hb44, hb45, hb46, hb49]) <;> (repeat' with_reducible apply And.intro) <;> first | assumption | rfl | omega)) ?_
                        refine AO.segF tab_ok 5 (by decide) [(130, .bool (decide (v0_10.1 ≤ v0_14.1)))] [] (by (simp only [go_sem, hb2, hb6, hb10, hb13, hb34, hb36, hb38, hb44, hb45, hb46, hb49]) <;> (repeat' with_reducible apply And.intro) <;> first | assumption | rfl | omega) ?_
                        rcases Bool.eq_false_or_eq_true (decide (v0_10.1 ≤ v0_14.1)) with hb50 | hb50
                        · rw [if_pos hb50] at h
                          refine AO.weaken (s' := ⟨fr [(130, .bool true)], hpGet [], gt⟩) (Wk.to (by (simp only [go_sem, hb2, hb6, hb10, hb13, hb34, hb36, hb38, hb44, hb45, hb46, hb49, hb50]) <;> (repeat' with_reducible apply And.intro) <;> first | assumption | rfl | omega)) ?_
                          obtain ⟨v0_16, hv51, h⟩ := Option.bind_eq_some_iff.1 h
                          refine AO.call tab_ok (by decide) rfl rfl rfl (fun _ h => ⟨fun _ => h, fun hn => absurd rfl hn⟩) [] [] (hc_lineallaw02_Sane hv51) rfl (by (simp only [go_sem, hb2, hb6, hb10, hb13, hb34, hb36, hb38, hb44, hb45, hb46, hb49, hb50]) <;> (repeat' with_reducible apply And.intro) <;> first | assumption | rfl | omega) (by (simp only [go_sem, hb2, hb6, hb10, hb13, hb34, hb36, hb38, hb44, hb45, hb46, hb49, hb50]) <;> (repeat' with_reducible apply And.intro) <;> first | assumption | rfl | omega) [(130, .bool true), (131, .bool v0_16)] [] (by (simp only [go_sem, hb2, hb6, hb10, hb13, hb34, hb36, hb38, hb44, hb45, hb46, hb49, hb50]) <;> (repeat' with_reducible apply And.intro) <;> first | assumption | rfl | omega) ?_
                          refine AO.allF tab_ok (by decide) [(6, .bool v0_16)] [] (by (simp only [go_sem, hb2, hb6, hb10, hb13, hb34, hb36, hb38, hb44, hb45, hb46, hb49, hb50]) <;> (repeat' with_reducible apply And.intro) <;> first | assumption | rfl | omega) ?_
                          refine athen_n ?_
                          refine AW.ret ?_
                          obtain rfl := Option.some.inj h
                          exact ⟨rfl, [], [], [], rfl, (by (simp only [go_sem, hb2, hb6, hb10, hb13, hb34, hb36, hb38, hb44, hb45, hb46, hb49, hb50]) <;> (repeat' with_reducible apply And.intro) <;> first | assumption | rfl | omega)⟩
                        · rw [if_neg (Bool.eq_false_iff.1 hb50)] at h
                          refine AO.weaken (s' := ⟨fr [(130, .bool false)], hpGet [], gt⟩) (Wk.to (by (simp only [go_sem, hb2, hb6, hb10, hb13, hb34, hb36, hb38, hb44, hb45, hb46, hb49, hb50]) <;> (repeat' with_reducible apply And.intro) <;> first | assumption | rfl | omega)) ?_
                          refine AO.allF tab_ok (by decide) [(6, .bool false)] [] (by (simp only [go_sem, hb2, hb6, hb10, hb13, hb34, hb36, hb38, hb44, hb45, hb46, hb49, hb50]) <;> (repeat' with_reducible apply And.intro) <;> first | assumption | rfl | omega) ?_
                          refine athen_n ?_
                          refine AW.ret ?_
                          obtain rfl := Option.some.inj h
                          exact ⟨rfl, [], [], [], rfl, (by (simp only [go_sem, hb2, hb6, hb10, hb13, hb34, hb36, hb38, hb44, hb45, hb46, hb49, hb50]) <;> (repeat' with_reducible apply And.intro) <;> first | assumption | rfl | omega)⟩
                      · rw [if_neg (Bool.eq_false_iff.1 hb49)] at h
                        refine AO.weaken (s' := ⟨fr [(12, .int .i64 v0_10.1), (16, .int .i64 v0_14.1), (125, .bool false)], hpGet [], gt⟩) (Wk.to (by (simp only [go_sem, hb2, hb6, hb10, hb13, hb34, hb36, hb38, hb44, hb45, hb46, hb49]) <;> (repeat' with_reducible apply And.intro) <;> first | assumption | rfl | omega)) ?_
                        refine AO.segF tab_ok 6 (by decide) [(130, .bool false), (131, .cv (undef))] [] (by (simp only [go_sem, hb2, hb6, hb10, hb13, hb34, hb36, hb38, hb44, hb45, hb46, hb49]) <;> (repeat' with_reducible apply And.intro) <;> first | assumption | rfl | omega) ?_
                        refine AO.allF tab_ok (by decide) [(6, .bool false)] [] (by (simp only [go_sem, hb2, hb6, hb10, hb13, hb34, hb36, hb38, hb44, hb45, hb46, hb49]) <;> (repeat' with_reducible apply And.intro) <;> first | assumption | rfl | omega) ?_
                        refine athen_n ?_
                        refine AW.ret ?_
                        obtain rfl := Option.some.inj h
                        exact ⟨rfl, [], [], [], rfl, (by (simp only [go_sem, hb2, hb6, hb10, hb13, hb34, hb36, hb38, hb44, hb45, hb46, hb49]) <;> (repeat' with_reducible apply And.intro) <;> first | assumption | rfl | omega)⟩
                  · rw [if_neg (Bool.eq_false_iff.1 hb45)] at h
                    refine AO.weaken (s' := ⟨fr [(10, .bool v0_9.1), (12, .int .i64 v0_10.1), (15, .bool v0_13.1), (16, .int .i64 v0_14.1), (118, .bool false)], hpGet [], gt⟩) (Wk.to (by (simp only [go_sem, hb2, hb6, hb10, hb13, hb34, hb36, hb38, hb44, hb45]) <;> (repeat' with_reducible apply And.intro) <;> first | assumption | rfl | omega)) ?_
                    refine AO.segF tab_ok 4 (by decide) [(12, .int .i64 v0_10.1), (16, .int .i64 v0_14.1), (118, .bool false), (121, .cv (undef)), (122, .cv (undef))] [] (by (simp only [go_sem, hb2, hb6, hb10, hb13, hb34, hb36, hb38, hb44, hb45]) <;> (repeat' with_reducible apply And.intro) <;> first | assumption | rfl | omega) ?_
                    refine AO.segF tab_ok 6 (by decide) [(125, .bool false), (128, .cv (undef))] [] (by (simp only [go_sem, hb2, hb6, hb10, hb13, hb34, hb36, hb38, hb44, hb45]) <;> (repeat' with_reducible apply And.intro) <;> first | assumption | rfl | omega) ?_
                    refine AO.allF tab_ok (by decide) [(6, .bool false)] [] (by (simp only [go_sem, hb2, hb6, hb10, hb13, hb34, hb36, hb38, hb44, hb45]) <;> (repeat' with_reducible apply And.intro) <;> first | assumption | rfl | omega) ?_
                    refine athen_n ?_
                    refine AW.ret ?_
                    obtain rfl := Option.some.inj h
                    exact ⟨rfl, [], [], [], rfl, (by (simp only [go_sem, hb2, hb6, hb10, hb13, hb34, hb36, hb38, hb44, hb45]) <;> (repeat' with_reducible apply And.intro) <;> first | assumption | rfl | omega)⟩
                · rw [if_neg (Bool.eq_false_iff.1 hb44)] at h
                  refine AO.weaken (s' := ⟨fr [(10, .bool v0_9.1), (12, .int .i64 v0_10.1), (13, .int .i64 v0_14.2), (15, .bool v0_13.1), (16, .int .i64 v0_14.1), (114, .bool false)], hpGet [], gt⟩) (Wk.to (by (simp only [go_sem, hb2, hb6, hb10, hb13, hb34, hb36, hb38, hb44]) <;> (repeat' with_reducible apply And.intro) <;> first | assumption | rfl | omega)) ?_
                  refine AO.segF tab_ok 6 (by decide) [(12, .int .i64 v0_10.1), (15, .bool v0_13.1), (16, .int .i64 v0_14.1), (118, .bool false), (120, .cv (undef))] [] (by (simp only [go_sem, hb2, hb6, hb10, hb13, hb34, hb36, hb38, hb44]) <;> (repeat' with_reducible apply And.intro) <;> first | assumption | rfl | omega) ?_
                  refine AO.segF tab_ok 6 (by decide) [(12, .int .i64 v0_10.1), (125, .bool false), (126, .cv (undef))] [] (by (simp only [go_sem, hb2, hb6, hb10, hb13, hb34, hb36, hb38, hb44]) <;> (repeat' with_reducible apply And.intro) <;> first | assumption | rfl | omega) ?_
                  refine AO.allF tab_ok (by decide) [(6, .bool false)] [] (by (simp only [go_sem, hb2, hb6, hb10, hb13, hb34, hb36, hb38, hb44]) <;> (repeat' with_reducible apply And.intro) <;> first | assumption | rfl | omega) ?_
                  refine athen_n ?_
                  refine AW.ret ?_
                  obtain rfl := Option.some.inj h
                  exact ⟨rfl, [], [], [], rfl, (by (simp only [go_sem, hb2, hb6, hb10, hb13, hb34, hb36, hb38, hb44]) <;> (repeat' with_reducible apply And.intro) <;> first | assumption | rfl | omega)⟩

end Go.Proofs.Ytdkdkpenmgkdcaa
