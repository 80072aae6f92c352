/-
  Made by wip/tool/dc.py out of the print of the program: contracts.
-/
import Derived.Test.YtcijihofjcfpoabWp
import Derived.Test.YtcijihofjcfpoabTb3
import Derived.Test.YtcijihofjcfpoabXac2
import Derived.Test.YtcijihofjcfpoabXac3
import Derived.Test.YtcijihofjcfpoabXac4
namespace Go.Proofs.Ytcijihofjcfpoab
open Go.RowKit

set_option linter.unusedSimpArgs false
set_option linter.unusedVariables false
set_option linter.constructorNameAsVariable false

set_option maxRecDepth 100000 in
set_option maxHeartbeats 2000000 in
theorem hc_linealref03_Projection (l : Int × (List (Int × Int))) (w : List Int) (a : Int) (b : Int) {r : (List Int) × Int} (h : linealref03_Projection l w a b = some r) : HC Try.prog 25 [] [.agg [.int .i64 l.1, .sl (.pair (.int .i64) (.int .i64)) l.2], .sl (.int .i64) w, .int .i64 a, .int .i64 b] [(2000, .arr 3 (.int .i64) r.1)] (.tup [.own 2000, .int .i64 r.2]) := by
  unfold linealref03_Projection at h
  refine HC.of_body tab_ok (res := [.tmp 8, .tmp 9]) Try.func25 rfl (by kernel_rfl) rfl (nt := 50) rfl (by decide) (by simp) ?_
  refine AW.seq ?_
  refine AW.ops ?_
  refine AO.allF tab_ok (by decide) [(1, .sl (.int .i64) w), (2, .int .i64 a), (3, .int .i64 b), (4, .bp 4 0)] [(4, .box 24 [.int .i64 l.1, .sl (.pair (.int .i64) (.int .i64)) l.2])] (by (simp only [go_sem]) <;> (repeat' with_reducible apply And.intro) <;> first | assumption | rfl | omega | (unfold maxLen; omega)) ?_
  refine athen_n ?_
  refine AW.seq ?_
  refine AW.seq ?_
  refine AW.ops ?_
  refine AO.segF tab_ok 2 (by decide) [(1, .sl (.int .i64) w), (2, .int .i64 a), (3, .int .i64 b), (4, .bp 4 0), (14, .agg [.int .i64 l.1, .sl (.pair (.int .i64) (.int .i64)) l.2]), (15, .sl (.int .i64) w)] [(4, .box 24 [.int .i64 l.1, .sl (.pair (.int .i64) (.int .i64)) l.2])] (by (simp only [go_sem]) <;> (repeat' with_reducible apply And.intro) <;> first | assumption | rfl | omega | (unfold maxLen; omega)) ?_
  obtain ⟨v0, hv1, h⟩ := Option.bind_eq_some_iff.1 h
  refine AO.call tab_ok (by decide) rfl rfl rfl (fun _ h => h) [] [] (hc_linealref03_asked l w [] hv1) rfl (by (simp only [go_sem]) <;> (repeat' with_reducible apply And.intro) <;> first | assumption | rfl | omega | (unfold maxLen; omega)) (by (simp only [go_sem]) <;> (repeat' with_reducible apply And.intro) <;> first | assumption | rfl | omega | (unfold maxLen; omega)) [(1, .sl (.int .i64) w), (2, .int .i64 a), (3, .int .i64 b), (4, .bp 4 0), (16, .int .i64 v0)] [(4, .box 24 [.int .i64 l.1, .sl (.pair (.int .i64) (.int .i64)) l.2])] (by (simp only [go_sem]) <;> (repeat' with_reducible apply And.intro) <;> first | assumption | rfl | omega | (unfold maxLen; omega)) ?_
  refine AO.allF tab_ok (by decide) [(1, .sl (.int .i64) w), (2, .int .i64 a), (3, .int .i64 b), (4, .bp 4 0), (10, .int .i64 v0)] [(4, .box 24 [.int .i64 l.1, .sl (.pair (.int .i64) (.int .i64)) l.2])] (by (simp only [go_sem]) <;> (repeat' with_reducible apply And.intro) <;> first | assumption | rfl | omega | (unfold maxLen; omega)) ?_
  refine athen_n ?_
  refine AW.seq ?_
  refine AW.ops ?_
  refine AO.allF tab_ok (by decide) [(1, .sl (.int .i64) w), (2, .int .i64 a), (3, .int .i64 b), (4, .bp 4 0), (10, .int .i64 v0), (18, .bool (!(decide (v0 = 0))))] [(4, .box 24 [.int .i64 l.1, .sl (.pair (.int .i64) (.int .i64)) l.2])] (by (simp only [go_sem]) <;> (repeat' with_reducible apply And.intro) <;> first | assumption | rfl | omega | (unfold maxLen; omega)) ?_
  refine athen_n ?_
  refine AW.cond (b := (!(decide (v0 = 0)))) rfl (fun hb2 => ?_) (fun hb2 => ?_)
  · rw [if_pos hb2] at h
    refine AW.seq ?_
    refine AW.ops ?_
    refine AO.allF tab_ok (by decide) [(8, .cv (.slice none 0 0)), (9, .int .i64 v0)] [] (by (simp only [go_sem, hb2]) <;> (repeat' with_reducible apply And.intro) <;> first | assumption | rfl | omega | (unfold maxLen; omega)) ?_
    refine athen_n ?_
    refine AW.ret ?_
    refine athen_r ?_
    obtain rfl := Option.some.inj h
    exact ⟨rfl, [], [2000], [], rfl, (by (simp only [go_sem, hb2]) <;> (repeat' with_reducible apply And.intro) <;> first | assumption | rfl | omega | (unfold maxLen; omega))⟩
  · rw [if_neg (Bool.eq_false_iff.1 hb2)] at h
    refine AW.skip ?_
    refine athen_n ?_
    refine AW.seq ?_
    refine AW.seq ?_
    refine AW.ops ?_
    refine AO.segF tab_ok 2 (by decide) [(1, .sl (.int .i64) w), (2, .int .i64 a), (3, .int .i64 b), (4, .bp 4 0), (20, .agg [.int .i64 l.1, .sl (.pair (.int .i64) (.int .i64)) l.2]), (21, .int .i64 a)] [(4, .box 24 [.int .i64 l.1, .sl (.pair (.int .i64) (.int .i64)) l.2])] (by (simp only [go_sem, hb2]) <;> (repeat' with_reducible apply And.intro) <;> first | assumption | rfl | omega | (unfold maxLen; omega)) ?_
    obtain ⟨v0_2, hv3, h⟩ := Option.bind_eq_some_iff.1 h
    refine AO.call tab_ok (by decide) rfl rfl rfl (fun _ h => h) [] [] (hc_linealref03_IsLetter l a hv3) rfl (by (simp only [go_sem, hb2]) <;> (repeat' with_reducible apply And.intro) <;> first | assumption | rfl | omega | (unfold maxLen; omega)) (by (simp only [go_sem, hb2]) <;> (repeat' with_reducible apply And.intro) <;> first | assumption | rfl | omega | (unfold maxLen; omega)) [(1, .sl (.int .i64) w), (2, .int .i64 a), (3, .int .i64 b), (4, .bp 4 0), (22, .bool v0_2)] [(4, .box 24 [.int .i64 l.1, .sl (.pair (.int .i64) (.int .i64)) l.2])] (by (simp only [go_sem, hb2]) <;> (repeat' with_reducible apply And.intro) <;> first | assumption | rfl | omega | (unfold maxLen; omega)) ?_
    refine AO.segF tab_ok 2 (by decide) [(1, .sl (.int .i64) w), (2, .int .i64 a), (3, .int .i64 b), (4, .bp 4 0), (24, .bool (!v0_2))] [(4, .box 24 [.int .i64 l.1, .sl (.pair (.int .i64) (.int .i64)) l.2])] (by (simp only [go_sem, hb2]) <;> (repeat' with_reducible apply And.intro) <;> first | assumption | rfl | omega | (unfold maxLen; omega)) ?_
    rcases Bool.eq_false_or_eq_true (!v0_2) with hb4 | hb4
    · rw [if_pos hb4] at h
      refine AO.weaken (s' := ⟨fr [(1, .sl (.int .i64) w), (2, .int .i64 a), (3, .int .i64 b), (4, .bp 4 0), (24, .bool true)], hpGet [(4, .box 24 [.int .i64 l.1, .sl (.pair (.int .i64) (.int .i64)) l.2])], gt⟩) (Wk.to (by (simp only [go_sem, hb2, hb4]) <;> (repeat' with_reducible apply And.intro) <;> first | assumption | rfl | omega | (unfold maxLen; omega))) ?_
      refine AO.segF tab_ok 4 (by decide) [(1, .sl (.int .i64) w), (2, .int .i64 a), (3, .int .i64 b), (24, .bool true), (28, .cv (undef))] [] (by (simp only [go_sem, hb2, hb4]) <;> (repeat' with_reducible apply And.intro) <;> first | assumption | rfl | omega | (unfold maxLen; omega)) ?_
      refine AO.allF tab_ok (by decide) [(1, .sl (.int .i64) w), (2, .int .i64 a), (3, .int .i64 b), (29, .bool true)] [] (by (simp only [go_sem, hb2, hb4]) <;> (repeat' with_reducible apply And.intro) <;> first | assumption | rfl | omega | (unfold maxLen; omega)) ?_
      refine athen_n ?_
      refine AW.cond (b := true) rfl (fun _ => ?_) (fun hb5 => by cases hb5)
      refine AW.seq ?_
      refine AW.ops ?_
      refine AO.allF tab_ok (by decide) [(8, .cv (.slice none 0 0)), (9, .int .i64 2)] [] (by (simp only [go_sem, hb2, hb4]) <;> (repeat' with_reducible apply And.intro) <;> first | assumption | rfl | omega | (unfold maxLen; omega)) ?_
      refine athen_n ?_
      refine AW.ret ?_
      refine athen_r ?_
      obtain rfl := Option.some.inj h
      exact ⟨rfl, [], [2000], [], rfl, (by (simp only [go_sem, hb2, hb4]) <;> (repeat' with_reducible apply And.intro) <;> first | assumption | rfl | omega | (unfold maxLen; omega))⟩
    · rw [if_neg (Bool.eq_false_iff.1 hb4)] at h
      refine AO.weaken (s' := ⟨fr [(1, .sl (.int .i64) w), (2, .int .i64 a), (3, .int .i64 b), (4, .bp 4 0), (24, .bool false)], hpGet [(4, .box 24 [.int .i64 l.1, .sl (.pair (.int .i64) (.int .i64)) l.2])], gt⟩) (Wk.to (by (simp only [go_sem, hb2, hb4]) <;> (repeat' with_reducible apply And.intro) <;> first | assumption | rfl | omega | (unfold maxLen; omega))) ?_
      refine AO.segF tab_ok 2 (by decide) [(1, .sl (.int .i64) w), (2, .int .i64 a), (3, .int .i64 b), (24, .bool false), (25, .agg [.int .i64 l.1, .sl (.pair (.int .i64) (.int .i64)) l.2]), (26, .int .i64 b)] [] (by (simp only [go_sem, hb2, hb4]) <;> (repeat' with_reducible apply And.intro) <;> first | assumption | rfl | omega | (unfold maxLen; omega)) ?_
      obtain ⟨v0_3, hv6, h⟩ := Option.bind_eq_some_iff.1 h
      refine AO.call tab_ok (by decide) rfl rfl rfl (fun _ h => ⟨fun _ => h, fun hn => absurd rfl hn⟩) [] [] (hc_linealref03_IsLetter l b hv6) rfl (by (simp only [go_sem, hb2, hb4]) <;> (repeat' with_reducible apply And.intro) <;> first | assumption | rfl | omega | (unfold maxLen; omega)) (by (simp only [go_sem, hb2, hb4]) <;> (repeat' with_reducible apply And.intro) <;> first | assumption | rfl | omega | (unfold maxLen; omega)) [(1, .sl (.int .i64) w), (2, .int .i64 a), (3, .int .i64 b), (24, .bool false), (27, .bool v0_3)] [] (by (simp only [go_sem, hb2, hb4]) <;> (repeat' with_reducible apply And.intro) <;> first | assumption | rfl | omega | (unfold maxLen; omega)) ?_
      refine AO.allF tab_ok (by decide) [(1, .sl (.int .i64) w), (2, .int .i64 a), (3, .int .i64 b), (29, .bool (!v0_3))] [] (by (simp only [go_sem, hb2, hb4]) <;> (repeat' with_reducible apply And.intro) <;> first | assumption | rfl | omega | (unfold maxLen; omega)) ?_
      refine athen_n ?_
      refine AW.cond (b := (!v0_3)) rfl (fun hb7 => ?_) (fun hb7 => ?_)
      · rw [if_pos hb7] at h
        refine AW.seq ?_
        refine AW.ops ?_
        refine AO.allF tab_ok (by decide) [(8, .cv (.slice none 0 0)), (9, .int .i64 2)] [] (by (simp only [go_sem, hb2, hb4, hb7]) <;> (repeat' with_reducible apply And.intro) <;> first | assumption | rfl | omega | (unfold maxLen; omega)) ?_
        refine athen_n ?_
        refine AW.ret ?_
        refine athen_r ?_
        obtain rfl := Option.some.inj h
        exact ⟨rfl, [], [2000], [], rfl, (by (simp only [go_sem, hb2, hb4, hb7]) <;> (repeat' with_reducible apply And.intro) <;> first | assumption | rfl | omega | (unfold maxLen; omega))⟩
      · rw [if_neg (Bool.eq_false_iff.1 hb7)] at h
        refine AW.skip ?_
        refine athen_n ?_
        refine AW.seq ?_
        refine AW.ops ?_
        refine AO.allF tab_ok (by decide) [(1, .sl (.int .i64) w), (2, .int .i64 a), (3, .int .i64 b), (11, .cv (.slice none 0 0))] [] (by (simp only [go_sem, hb2, hb4, hb7]) <;> (repeat' with_reducible apply And.intro) <;> first | assumption | rfl | omega | (unfold maxLen; omega)) ?_
        refine athen_n ?_
        refine AW.have1 (fun b1 : (List Int) => linealref03_Projection_k1 b1 = some r) (fun b1 => ⟨fr [(11, .own 47)], hpGet [(47, .arr 3 (.int .i64) b1)], gt⟩) (fun b1 h => ?_) (fun hk_linealref03_Projection_k1 => ?_)
        · unfold linealref03_Projection_k1 at h
          refine AW.seq ?_
          refine AW.ops ?_
          refine AO.allF tab_ok (by decide) [(8, .own 47), (9, .int .i64 0)] [(47, .arr 3 (.int .i64) b1)] (by (simp only [go_sem, hb2, hb4, hb7]) <;> (repeat' with_reducible apply And.intro) <;> first | assumption | rfl | omega | (unfold maxLen; omega)) ?_
          refine athen_n ?_
          refine AW.ret ?_
          obtain rfl := Option.some.inj h
          exact ⟨rfl, [], [], [(2000, 47)], rfl, (by (simp only [go_sem, hb2, hb4, hb7]) <;> (repeat' with_reducible apply And.intro) <;> first | assumption | rfl | omega | (unfold maxLen; omega))⟩
        · refine AW.seq ?_
          refine AW.seq ?_
          refine AW.ops ?_
          refine AO.allF tab_ok (by decide) [(2, .int .i64 a), (3, .int .i64 b), (11, .cv (.slice none 0 0)), (30, .sl (.int .i64) w), (31, .int .i64 (w.length : Int)), (32, .int .i64 0)] [] (by (simp only [go_sem, hb2, hb4, hb7]) <;> (repeat' with_reducible apply And.intro) <;> first | assumption | rfl | omega | (unfold maxLen; omega)) ?_
          refine athen_n ?_
          refine AW.block ?_
          obtain ⟨rv12, hw8, ho9⟩ := Option.bind_eq_some_iff.1 h
          refine AW.loopO (linealref03_Projection_b1 w a b) (fun st1 => ⟨fr [(2, .int .i64 a), (3, .int .i64 b), (11, .own 47), (30, .sl (.int .i64) w), (31, .int .i64 (w.length : Int)), (32, .int .i64 st1.2)], hpGet [(47, .arr 3 (.int .i64) st1.1)], gt⟩) ([], 0) hw8 (Wk.le [] [47] [] rfl (by (simp only [go_sem, hb2, hb4, hb7]) <;> (repeat' with_reducible apply And.intro) <;> first | assumption | rfl | omega | (unfold maxLen; omega)) (by (simp only [go_sem, hb2, hb4, hb7]) <;> (repeat' with_reducible apply And.intro) <;> first | assumption | rfl | omega | (unfold maxLen; omega))) ?_
          intro st1 x11 h hd10
          unfold linealref03_Projection_b1 at h
          refine AW.seq ?_
          refine AW.ops ?_
          refine AO.allF tab_ok (by decide) [(2, .int .i64 a), (3, .int .i64 b), (11, .own 47), (30, .sl (.int .i64) w), (31, .int .i64 (w.length : Int)), (32, .int .i64 st1.2), (33, .bool (decide (st1.2 < (w.length : Int))))] [(47, .arr 3 (.int .i64) st1.1)] (by (simp only [go_sem, hb2, hb4, hb7]) <;> (repeat' with_reducible apply And.intro) <;> first | assumption | rfl | omega | (unfold maxLen; omega)) ?_
          refine athen_n ?_
          refine AW.seq ?_
          refine AW.cond (b := (decide (st1.2 < (w.length : Int)))) rfl (fun hb13 => ?_) (fun hb13 => ?_)
          · rw [if_pos hb13] at h
            refine AW.skip ?_
            refine athen_n ?_
            refine AW.seq ?_
            refine AW.block ?_
            refine AW.seq ?_
            refine AW.ops ?_
            obtain ⟨c14, h⟩ := ck_some.1 h
            obtain ⟨c15, h⟩ := ck_some.1 h
            refine AO.allF tab_ok (by decide) [(2, .int .i64 a), (3, .int .i64 b), (11, .own 47), (13, .int .i64 (w.getD st1.2.toNat 0)), (30, .sl (.int .i64) w), (31, .int .i64 (w.length : Int)), (32, .int .i64 st1.2)] [(47, .arr 3 (.int .i64) st1.1)] (by (simp only [go_sem, hb2, hb4, hb7, hb13]) <;> (repeat' with_reducible apply And.intro) <;> first | assumption | rfl | omega | (unfold maxLen; omega)) ?_
            refine athen_n ?_
            refine AW.seq ?_
            refine AW.ops ?_
            refine AO.segF tab_ok 4 (by decide) [(2, .int .i64 a), (3, .int .i64 b), (11, .own 47), (13, .int .i64 (w.getD st1.2.toNat 0)), (30, .sl (.int .i64) w), (31, .int .i64 (w.length : Int)), (32, .int .i64 st1.2), (39, .bool (decide ((w.getD st1.2.toNat 0) = a)))] [(47, .arr 3 (.int .i64) st1.1)] (by (simp only [go_sem, hb2, hb4, hb7, hb13]) <;> (repeat' with_reducible apply And.intro) <;> first | assumption | rfl | omega | (unfold maxLen; omega)) ?_
            rcases Bool.eq_false_or_eq_true (decide ((w.getD st1.2.toNat 0) = a)) with hb16 | hb16
            · rw [if_pos hb16] at h
              refine AO.weaken (s' := ⟨fr [(2, .int .i64 a), (3, .int .i64 b), (11, .own 47), (13, .int .i64 (w.getD st1.2.toNat 0)), (30, .sl (.int .i64) w), (31, .int .i64 (w.length : Int)), (32, .int .i64 st1.2), (39, .bool true)], hpGet [(47, .arr 3 (.int .i64) st1.1)], gt⟩) (Wk.to (by (simp only [go_sem, hb2, hb4, hb7, hb13, hb16]) <;> (repeat' with_reducible apply And.intro) <;> first | assumption | rfl | omega | (unfold maxLen; omega))) ?_
              refine AO.allF tab_ok (by decide) [(2, .int .i64 a), (3, .int .i64 b), (11, .own 47), (13, .int .i64 (w.getD st1.2.toNat 0)), (30, .sl (.int .i64) w), (31, .int .i64 (w.length : Int)), (32, .int .i64 st1.2), (43, .bool true)] [(47, .arr 3 (.int .i64) st1.1)] (by (simp only [go_sem, hb2, hb4, hb7, hb13, hb16]) <;> (repeat' with_reducible apply And.intro) <;> first | assumption | rfl | omega | (unfold maxLen; omega)) ?_
              refine athen_n ?_
              refine AW.cond (b := true) rfl (fun _ => ?_) (fun hb17 => by cases hb17)
              refine AW.ops ?_
              obtain ⟨c18, h⟩ := ck_some.1 h
              refine AO.allF tab_ok (by decide) [(2, .int .i64 a), (3, .int .i64 b), (11, .own 47), (30, .sl (.int .i64) w), (31, .int .i64 (w.length : Int)), (32, .int .i64 st1.2)] [(47, .arr 3 (.int .i64) (st1.1 ++ [(w.getD st1.2.toNat 0)]))] (by (simp only [go_sem, hb2, hb4, hb7, hb13, hb16]) <;> (repeat' with_reducible apply And.intro) <;> first | assumption | rfl | omega | (unfold maxLen; omega)) ?_
              refine ablock_n ?_
              refine athen_n ?_
              refine AW.ops ?_
              obtain ⟨c19, h⟩ := ck_some.1 h
              refine AO.allF tab_ok (by decide) [(2, .int .i64 a), (3, .int .i64 b), (11, .own 47), (30, .sl (.int .i64) w), (31, .int .i64 (w.length : Int)), (32, .int .i64 (st1.2 + 1))] [(47, .arr 3 (.int .i64) (st1.1 ++ [(w.getD st1.2.toNat 0)]))] (by (simp only [go_sem, hb2, hb4, hb7, hb13, hb16]) <;> (repeat' with_reducible apply And.intro) <;> first | assumption | rfl | omega | (unfold maxLen; omega)) ?_
              obtain rfl := Option.some.inj h
              exact ⟨_, rfl, Wk.le [] [] [] rfl (by (simp only [go_sem, hb2, hb4, hb7, hb13, hb16]) <;> (repeat' with_reducible apply And.intro) <;> first | assumption | rfl | omega | (unfold maxLen; omega)) (by (simp only [go_sem, hb2, hb4, hb7, hb13, hb16]) <;> (repeat' with_reducible apply And.intro) <;> first | assumption | rfl | omega | (unfold maxLen; omega))⟩
            · rw [if_neg (Bool.eq_false_iff.1 hb16)] at h
              refine AO.weaken (s' := ⟨fr [(2, .int .i64 a), (3, .int .i64 b), (11, .own 47), (13, .int .i64 (w.getD st1.2.toNat 0)), (30, .sl (.int .i64) w), (31, .int .i64 (w.length : Int)), (32, .int .i64 st1.2), (39, .bool false)], hpGet [(47, .arr 3 (.int .i64) st1.1)], gt⟩) (Wk.to (by (simp only [go_sem, hb2, hb4, hb7, hb13, hb16]) <;> (repeat' with_reducible apply And.intro) <;> first | assumption | rfl | omega | (unfold maxLen; omega))) ?_
              refine AO.allF tab_ok (by decide) [(2, .int .i64 a), (3, .int .i64 b), (11, .own 47), (13, .int .i64 (w.getD st1.2.toNat 0)), (30, .sl (.int .i64) w), (31, .int .i64 (w.length : Int)), (32, .int .i64 st1.2), (43, .bool (decide ((w.getD st1.2.toNat 0) = b)))] [(47, .arr 3 (.int .i64) st1.1)] (by (simp only [go_sem, hb2, hb4, hb7, hb13, hb16]) <;> (repeat' with_reducible apply And.intro) <;> first | assumption | rfl | omega | (unfold maxLen; omega)) ?_
              refine athen_n ?_
              refine AW.cond (b := (decide ((w.getD st1.2.toNat 0) = b))) rfl (fun hb20 => ?_) (fun hb20 => ?_)
              · rw [if_pos hb20] at h
                refine AW.ops ?_
                obtain ⟨c21, h⟩ := ck_some.1 h
                refine AO.allF tab_ok (by decide) [(2, .int .i64 a), (3, .int .i64 b), (11, .own 47), (30, .sl (.int .i64) w), (31, .int .i64 (w.length : Int)), (32, .int .i64 st1.2)] [(47, .arr 3 (.int .i64) (st1.1 ++ [(w.getD st1.2.toNat 0)]))] (by (simp only [go_sem, hb2, hb4, hb7, hb13, hb16, hb20]) <;> (repeat' with_reducible apply And.intro) <;> first | assumption | rfl | omega | (unfold maxLen; omega)) ?_
                refine ablock_n ?_
                refine athen_n ?_
                refine AW.ops ?_
                obtain ⟨c22, h⟩ := ck_some.1 h
                refine AO.allF tab_ok (by decide) [(2, .int .i64 a), (3, .int .i64 b), (11, .own 47), (30, .sl (.int .i64) w), (31, .int .i64 (w.length : Int)), (32, .int .i64 (st1.2 + 1))] [(47, .arr 3 (.int .i64) (st1.1 ++ [(w.getD st1.2.toNat 0)]))] (by (simp only [go_sem, hb2, hb4, hb7, hb13, hb16, hb20]) <;> (repeat' with_reducible apply And.intro) <;> first | assumption | rfl | omega | (unfold maxLen; omega)) ?_
                obtain rfl := Option.some.inj h
                exact ⟨_, rfl, Wk.le [] [] [] rfl (by (simp only [go_sem, hb2, hb4, hb7, hb13, hb16, hb20]) <;> (repeat' with_reducible apply And.intro) <;> first | assumption | rfl | omega | (unfold maxLen; omega)) (by (simp only [go_sem, hb2, hb4, hb7, hb13, hb16, hb20]) <;> (repeat' with_reducible apply And.intro) <;> first | assumption | rfl | omega | (unfold maxLen; omega))⟩
              · rw [if_neg (Bool.eq_false_iff.1 hb20)] at h
                refine AW.skip ?_
                refine ablock_n ?_
                refine athen_n ?_
                refine AW.ops ?_
                obtain ⟨c23, h⟩ := ck_some.1 h
                refine AO.allF tab_ok (by decide) [(2, .int .i64 a), (3, .int .i64 b), (11, .own 47), (30, .sl (.int .i64) w), (31, .int .i64 (w.length : Int)), (32, .int .i64 (st1.2 + 1))] [(47, .arr 3 (.int .i64) st1.1)] (by (simp only [go_sem, hb2, hb4, hb7, hb13, hb16, hb20]) <;> (repeat' with_reducible apply And.intro) <;> first | assumption | rfl | omega | (unfold maxLen; omega)) ?_
                obtain rfl := Option.some.inj h
                exact ⟨_, rfl, Wk.le [] [] [] rfl (by (simp only [go_sem, hb2, hb4, hb7, hb13, hb16, hb20]) <;> (repeat' with_reducible apply And.intro) <;> first | assumption | rfl | omega | (unfold maxLen; omega)) (by (simp only [go_sem, hb2, hb4, hb7, hb13, hb16, hb20]) <;> (repeat' with_reducible apply And.intro) <;> first | assumption | rfl | omega | (unfold maxLen; omega))⟩
          · rw [if_neg (Bool.eq_false_iff.1 hb13)] at h
            refine AW.exit ?_
            refine athen_e ?_
            obtain rfl := Option.some.inj h
            rw [← hd10 _ rfl] at ho9
            have h := ho9
            refine athen_e ?_
            refine ablock_s ?_
            refine athen_n ?_
            exact AW.weaken (Wk.le [] [] [] rfl (by (simp only [go_sem, hb2, hb4, hb7, hb13]) <;> (repeat' with_reducible apply And.intro) <;> first | assumption | rfl | omega | (unfold maxLen; omega)) (by (simp only [go_sem, hb2, hb4, hb7, hb13]) <;> (repeat' with_reducible apply And.intro) <;> first | assumption | rfl | omega | (unfold maxLen; omega))) (hk_linealref03_Projection_k1 _ h)

set_option maxRecDepth 100000 in
set_option maxHeartbeats 2000000 in
theorem hc_lineallaw03_WeaveExchanges (l : Int × (List (Int × Int))) (w : List Int) (at0 : Int) (a : Int) (b : Int) {r : Bool} (h : lineallaw03_WeaveExchanges l w at0 a b = some r) : HC Try.prog 3 [] [.agg [.int .i64 l.1, .sl (.pair (.int .i64) (.int .i64)) l.2], .sl (.int .i64) w, .int .i64 at0, .int .i64 a, .int .i64 b] [] (.bool r) := by
  unfold lineallaw03_WeaveExchanges at h
  refine HC.of_body tab_ok (res := [.tmp 10]) Try.func3 rfl (by kernel_rfl) rfl (nt := 101) rfl (by decide) (by simp) ?_
  refine AW.seq ?_
  refine AW.ops ?_
  refine AO.allF tab_ok (by decide) [(1, .sl (.int .i64) w), (2, .int .i64 at0), (3, .int .i64 a), (4, .int .i64 b), (5, .bp 5 0)] [(5, .box 24 [.int .i64 l.1, .sl (.pair (.int .i64) (.int .i64)) l.2])] (by (simp only [go_sem]) <;> (repeat' with_reducible apply And.intro) <;> first | assumption | rfl | omega | (unfold maxLen; omega)) ?_
  refine athen_n ?_
  refine AW.seq ?_
  refine AW.seq ?_
  refine AW.ops ?_
  refine AO.segF tab_ok 3 (by decide) [(1, .sl (.int .i64) w), (2, .int .i64 at0), (3, .int .i64 a), (4, .int .i64 b), (5, .bp 5 0), (17, .agg [.int .i64 l.1, .sl (.pair (.int .i64) (.int .i64)) l.2]), (19, .own 19)] [(5, .box 24 [.int .i64 l.1, .sl (.pair (.int .i64) (.int .i64)) l.2]), (19, .arr 25 (.sl (.int .i64)) [w])] (by (simp only [go_sem]) <;> (repeat' with_reducible apply And.intro) <;> first | assumption | rfl | omega | (unfold maxLen; omega)) ?_
  obtain ⟨v0, hv1, h⟩ := Option.bind_eq_some_iff.1 h
  refine AO.call tab_ok (by decide) rfl rfl rfl (fun _ h => h) [19] [] (hc_lineallaw03_Long l [w] hv1) rfl (by (simp only [go_sem]) <;> (repeat' with_reducible apply And.intro) <;> first | assumption | rfl | omega | (unfold maxLen; omega)) (by (simp only [go_sem]) <;> (repeat' with_reducible apply And.intro) <;> first | assumption | rfl | omega | (unfold maxLen; omega)) [(1, .sl (.int .i64) w), (2, .int .i64 at0), (3, .int .i64 a), (4, .int .i64 b), (5, .bp 5 0), (20, .bool v0)] [(5, .box 24 [.int .i64 l.1, .sl (.pair (.int .i64) (.int .i64)) l.2])] (by (simp only [go_sem]) <;> (repeat' with_reducible apply And.intro) <;> first | assumption | rfl | omega | (unfold maxLen; omega)) ?_
  refine AO.allF tab_ok (by decide) [(1, .sl (.int .i64) w), (2, .int .i64 at0), (3, .int .i64 a), (4, .int .i64 b), (5, .bp 5 0), (20, .bool v0)] [(5, .box 24 [.int .i64 l.1, .sl (.pair (.int .i64) (.int .i64)) l.2])] (by (simp only [go_sem]) <;> (repeat' with_reducible apply And.intro) <;> first | assumption | rfl | omega | (unfold maxLen; omega)) ?_
  refine athen_n ?_
  refine AW.cond (b := v0) rfl (fun hb2 => ?_) (fun hb2 => ?_)
  · rw [if_pos hb2] at h
    refine AW.seq ?_
    refine AW.ops ?_
    obtain ⟨v0_2, hv3, h⟩ := Option.bind_eq_some_iff.1 h
    refine AO.call tab_ok (by decide) rfl rfl rfl (fun _ h => h) [] [] (hc_lineallaw03_Awake hv3) rfl (by (simp only [go_sem, hb2]) <;> (repeat' with_reducible apply And.intro) <;> first | assumption | rfl | omega | (unfold maxLen; omega)) (by (simp only [go_sem, hb2]) <;> (repeat' with_reducible apply And.intro) <;> first | assumption | rfl | omega | (unfold maxLen; omega)) [(21, .bool v0_2)] [] (by (simp only [go_sem, hb2]) <;> (repeat' with_reducible apply And.intro) <;> first | assumption | rfl | omega | (unfold maxLen; omega)) ?_
    refine AO.allF tab_ok (by decide) [(10, .bool v0_2)] [] (by (simp only [go_sem, hb2]) <;> (repeat' with_reducible apply And.intro) <;> first | assumption | rfl | omega | (unfold maxLen; omega)) ?_
    refine athen_n ?_
    refine AW.ret ?_
    refine athen_r ?_
    obtain rfl := Option.some.inj h
    exact ⟨rfl, [], [], [], rfl, (by (simp only [go_sem, hb2]) <;> (repeat' with_reducible apply And.intro) <;> first | assumption | rfl | omega | (unfold maxLen; omega))⟩
  · rw [if_neg (Bool.eq_false_iff.1 hb2)] at h
    refine AW.skip ?_
    refine athen_n ?_
    refine AW.seq ?_
    refine AW.ops ?_
    refine AO.segF tab_ok 3 (by decide) [(1, .sl (.int .i64) w), (2, .int .i64 at0), (3, .int .i64 a), (4, .int .i64 b), (5, .bp 5 0), (23, .agg [.int .i64 l.1, .sl (.pair (.int .i64) (.int .i64)) l.2]), (24, .int .i64 a), (25, .int .i64 b)] [(5, .box 24 [.int .i64 l.1, .sl (.pair (.int .i64) (.int .i64)) l.2])] (by (simp only [go_sem, hb2]) <;> (repeat' with_reducible apply And.intro) <;> first | assumption | rfl | omega | (unfold maxLen; omega)) ?_
    obtain ⟨v0_3, hv4, h⟩ := Option.bind_eq_some_iff.1 h
    refine AO.call tab_ok (by decide) rfl rfl rfl (fun _ h => h) [] [] (hc_weave_Depend l a b hv4) rfl (by (simp only [go_sem, hb2]) <;> (repeat' with_reducible apply And.intro) <;> first | assumption | rfl | omega | (unfold maxLen; omega)) (by (simp only [go_sem, hb2]) <;> (repeat' with_reducible apply And.intro) <;> first | assumption | rfl | omega | (unfold maxLen; omega)) [(1, .sl (.int .i64) w), (2, .int .i64 at0), (3, .int .i64 a), (4, .int .i64 b), (5, .bp 5 0), (26, .tup [.bool v0_3.1, .int .i64 v0_3.2])] [(5, .box 24 [.int .i64 l.1, .sl (.pair (.int .i64) (.int .i64)) l.2])] (by (simp only [go_sem, hb2]) <;> (repeat' with_reducible apply And.intro) <;> first | assumption | rfl | omega | (unfold maxLen; omega)) ?_
    refine AO.allF tab_ok (by decide) [(1, .sl (.int .i64) w), (2, .int .i64 at0), (3, .int .i64 a), (4, .int .i64 b), (5, .bp 5 0), (11, .bool v0_3.1), (12, .int .i64 v0_3.2)] [(5, .box 24 [.int .i64 l.1, .sl (.pair (.int .i64) (.int .i64)) l.2])] (by (simp only [go_sem, hb2]) <;> (repeat' with_reducible apply And.intro) <;> first | assumption | rfl | omega | (unfold maxLen; omega)) ?_
    refine athen_n ?_
    refine AW.seq ?_
    refine AW.ops ?_
    refine AO.segF tab_ok 3 (by decide) [(1, .sl (.int .i64) w), (2, .int .i64 at0), (3, .int .i64 a), (4, .int .i64 b), (5, .bp 5 0), (11, .bool v0_3.1), (12, .int .i64 v0_3.2), (30, .agg [.int .i64 l.1, .sl (.pair (.int .i64) (.int .i64)) l.2]), (31, .int .i64 a), (32, .int .i64 b)] [(5, .box 24 [.int .i64 l.1, .sl (.pair (.int .i64) (.int .i64)) l.2])] (by (simp only [go_sem, hb2]) <;> (repeat' with_reducible apply And.intro) <;> first | assumption | rfl | omega | (unfold maxLen; omega)) ?_
    obtain ⟨v0_4, hv5, h⟩ := Option.bind_eq_some_iff.1 h
    refine AO.call tab_ok (by decide) rfl rfl rfl (fun _ h => h) [] [] (hc_linealref03_Depend l a b hv5) rfl (by (simp only [go_sem, hb2]) <;> (repeat' with_reducible apply And.intro) <;> first | assumption | rfl | omega | (unfold maxLen; omega)) (by (simp only [go_sem, hb2]) <;> (repeat' with_reducible apply And.intro) <;> first | assumption | rfl | omega | (unfold maxLen; omega)) [(1, .sl (.int .i64) w), (2, .int .i64 at0), (3, .int .i64 a), (4, .int .i64 b), (5, .bp 5 0), (11, .bool v0_3.1), (12, .int .i64 v0_3.2), (33, .tup [.bool v0_4.1, .int .i64 v0_4.2])] [(5, .box 24 [.int .i64 l.1, .sl (.pair (.int .i64) (.int .i64)) l.2])] (by (simp only [go_sem, hb2]) <;> (repeat' with_reducible apply And.intro) <;> first | assumption | rfl | omega | (unfold maxLen; omega)) ?_
    refine AO.allF tab_ok (by decide) [(1, .sl (.int .i64) w), (2, .int .i64 at0), (3, .int .i64 a), (4, .int .i64 b), (5, .bp 5 0), (11, .bool v0_3.1), (12, .int .i64 v0_3.2), (13, .bool v0_4.1), (14, .int .i64 v0_4.2)] [(5, .box 24 [.int .i64 l.1, .sl (.pair (.int .i64) (.int .i64)) l.2])] (by (simp only [go_sem, hb2]) <;> (repeat' with_reducible apply And.intro) <;> first | assumption | rfl | omega | (unfold maxLen; omega)) ?_
    refine athen_n ?_
    refine AW.seq ?_
    refine AW.seq ?_
    refine AW.draw tab_ok mixed_ok [] [] (by decide) (by kernel_rfl) ?_
    refine adops_cut 1 (fun K' hK6 => ?_)
    try dsimp only [List.drop_succ_cons, List.drop_zero, List.take_succ_cons, List.take_zero]
    simp only [go_sem, hb2]
    repeat (with_reducible refine And.intro (by first | assumption | rfl | omega | trivial | (unfold maxLen; omega)) ?_)
    refine hK6 _ ?_
    obtain ⟨v0_5, hv7, h⟩ := Option.bind_eq_some_iff.1 h
    refine adops.call (by first | trivial | rfl) rfl rfl rfl (fun _ h => h) [] [] (hc_weave_Valid l hv7) rfl (by (simp only [go_sem, hb2]) <;> (repeat' with_reducible apply And.intro) <;> first | assumption | rfl | omega | (unfold maxLen; omega)) (by (simp only [go_sem, hb2]) <;> (repeat' with_reducible apply And.intro) <;> first | assumption | rfl | omega | (unfold maxLen; omega)) rfl ?_
    refine adops_cut 1 (fun K' hK8 => ?_)
    try dsimp only [List.drop_succ_cons, List.drop_zero, List.take_succ_cons, List.take_zero]
    simp only [go_sem, hb2]
    repeat (with_reducible refine And.intro (by first | assumption | rfl | omega | trivial | (unfold maxLen; omega)) ?_)
    refine hK8 _ ?_
    obtain ⟨v0_6, hv9, h⟩ := Option.bind_eq_some_iff.1 h
    refine adops.call (by first | trivial | rfl) rfl rfl rfl (fun _ h => h) [] [] (hc_linealref03_Valid l hv9) rfl (by (simp only [go_sem, hb2]) <;> (repeat' with_reducible apply And.intro) <;> first | assumption | rfl | omega | (unfold maxLen; omega)) (by (simp only [go_sem, hb2]) <;> (repeat' with_reducible apply And.intro) <;> first | assumption | rfl | omega | (unfold maxLen; omega)) rfl ?_
    refine adops_cut 2 (fun K' hK10 => ?_)
    try dsimp only [List.drop_succ_cons, List.drop_zero, List.take_succ_cons, List.take_zero]
    simp only [go_sem, hb2]
    repeat (with_reducible refine And.intro (by first | assumption | rfl | omega | trivial | (unfold maxLen; omega)) ?_)
    refine hK10 _ ?_
    rcases Bool.eq_false_or_eq_true ((v0_5 == v0_6) != true) with hb11 | hb11
    · rw [if_pos hb11] at h
      simp only [hb11]
      refine adops_cut 6 (fun K' hK12 => ?_)
      try dsimp only [List.drop_succ_cons, List.drop_zero, List.take_succ_cons, List.take_zero]
      simp only [go_sem, hb2, hb11]
      repeat (with_reducible refine And.intro (by first | assumption | rfl | omega | trivial | (unfold maxLen; omega)) ?_)
      refine hK12 _ ?_
      refine adops_cut 3 (fun K' hK13 => ?_)
      try dsimp only [List.drop_succ_cons, List.drop_zero, List.take_succ_cons, List.take_zero]
      simp only [go_sem, hb2, hb11]
      repeat (with_reducible refine And.intro (by first | assumption | rfl | omega | trivial | (unfold maxLen; omega)) ?_)
      refine hK13 _ ?_
      refine adops_nil ?_
      refine athen_n ?_
      refine AW.weaken (s' := ⟨fr [(1, .sl (.int .i64) w), (2, .int .i64 at0), (3, .int .i64 a), (4, .int .i64 b), (5, .bp 5 0), (50, .bool true)], hpGet [(5, .box 24 [.int .i64 l.1, .sl (.pair (.int .i64) (.int .i64)) l.2])], gt⟩) (Wk.to (by (simp only [go_sem, hb2, hb11]) <;> (repeat' with_reducible apply And.intro) <;> first | assumption | rfl | omega | (unfold maxLen; omega))) ?_
      refine AW.cond (b := true) rfl (fun _ => ?_) (fun hb14 => by cases hb14)
      refine AW.seq ?_
      refine AW.ops ?_
      refine AO.allF tab_ok (by decide) [(10, .bool false)] [] (by (simp only [go_sem, hb2, hb11]) <;> (repeat' with_reducible apply And.intro) <;> first | assumption | rfl | omega | (unfold maxLen; omega)) ?_
      refine athen_n ?_
      refine AW.ret ?_
      refine athen_r ?_
      obtain rfl := Option.some.inj h
      exact ⟨rfl, [], [], [], rfl, (by (simp only [go_sem, hb2, hb11]) <;> (repeat' with_reducible apply And.intro) <;> first | assumption | rfl | omega | (unfold maxLen; omega))⟩
    · rw [if_neg (Bool.eq_false_iff.1 hb11)] at h
      simp only [hb11]
      refine adops_cut 5 (fun K' hK15 => ?_)
      try dsimp only [List.drop_succ_cons, List.drop_zero, List.take_succ_cons, List.take_zero]
      simp only [go_sem, hb2, hb11]
      repeat (with_reducible refine And.intro (by first | assumption | rfl | omega | trivial | (unfold maxLen; omega)) ?_)
      refine hK15 _ ?_
      rcases Bool.eq_false_or_eq_true ((v0_3.1 == v0_4.1) != true) with hb16 | hb16
      · rw [if_pos hb16] at h
        simp only [hb16]
        refine adops_cut 4 (fun K' hK17 => ?_)
        try dsimp only [List.drop_succ_cons, List.drop_zero, List.take_succ_cons, List.take_zero]
        simp only [go_sem, hb2, hb11, hb16]
        repeat (with_reducible refine And.intro (by first | assumption | rfl | omega | trivial | (unfold maxLen; omega)) ?_)
        refine hK17 _ ?_
        refine adops_nil ?_
        refine athen_n ?_
        refine AW.weaken (s' := ⟨fr [(1, .sl (.int .i64) w), (2, .int .i64 at0), (3, .int .i64 a), (4, .int .i64 b), (5, .bp 5 0), (50, .bool true)], hpGet [(5, .box 24 [.int .i64 l.1, .sl (.pair (.int .i64) (.int .i64)) l.2])], gt⟩) (Wk.to (by (simp only [go_sem, hb2, hb11, hb16]) <;> (repeat' with_reducible apply And.intro) <;> first | assumption | rfl | omega | (unfold maxLen; omega))) ?_
        refine AW.cond (b := true) rfl (fun _ => ?_) (fun hb18 => by cases hb18)
        refine AW.seq ?_
        refine AW.ops ?_
        refine AO.allF tab_ok (by decide) [(10, .bool false)] [] (by (simp only [go_sem, hb2, hb11, hb16]) <;> (repeat' with_reducible apply And.intro) <;> first | assumption | rfl | omega | (unfold maxLen; omega)) ?_
        refine athen_n ?_
        refine AW.ret ?_
        refine athen_r ?_
        obtain rfl := Option.some.inj h
        exact ⟨rfl, [], [], [], rfl, (by (simp only [go_sem, hb2, hb11, hb16]) <;> (repeat' with_reducible apply And.intro) <;> first | assumption | rfl | omega | (unfold maxLen; omega))⟩
      · rw [if_neg (Bool.eq_false_iff.1 hb16)] at h
        simp only [hb16]
        refine adops_cut 4 (fun K' hK19 => ?_)
        try dsimp only [List.drop_succ_cons, List.drop_zero, List.take_succ_cons, List.take_zero]
        simp only [go_sem, hb2, hb11, hb16]
        repeat (with_reducible refine And.intro (by first | assumption | rfl | omega | trivial | (unfold maxLen; omega)) ?_)
        refine hK19 _ ?_
        refine adops_nil ?_
        refine athen_n ?_
        refine AW.weaken (s' := ⟨fr [(1, .sl (.int .i64) w), (2, .int .i64 at0), (3, .int .i64 a), (4, .int .i64 b), (5, .bp 5 0), (50, .bool (!(decide (v0_3.2 = v0_4.2))))], hpGet [(5, .box 24 [.int .i64 l.1, .sl (.pair (.int .i64) (.int .i64)) l.2])], gt⟩) (Wk.to (by (simp only [go_sem, hb2, hb11, hb16]) <;> (repeat' with_reducible apply And.intro) <;> first | assumption | rfl | omega | (unfold maxLen; omega))) ?_
        refine AW.cond (b := (!(decide (v0_3.2 = v0_4.2)))) rfl (fun hb20 => ?_) (fun hb20 => ?_)
        · rw [if_pos hb20] at h
          refine AW.seq ?_
          refine AW.ops ?_
          refine AO.allF tab_ok (by decide) [(10, .bool false)] [] (by (simp only [go_sem, hb2, hb11, hb16, hb20]) <;> (repeat' with_reducible apply And.intro) <;> first | assumption | rfl | omega | (unfold maxLen; omega)) ?_
          refine athen_n ?_
          refine AW.ret ?_
          refine athen_r ?_
          obtain rfl := Option.some.inj h
          exact ⟨rfl, [], [], [], rfl, (by (simp only [go_sem, hb2, hb11, hb16, hb20]) <;> (repeat' with_reducible apply And.intro) <;> first | assumption | rfl | omega | (unfold maxLen; omega))⟩
        · rw [if_neg (Bool.eq_false_iff.1 hb20)] at h
          refine AW.skip ?_
          refine athen_n ?_
          refine AW.seq ?_
          refine AW.ops ?_
          refine AO.segF tab_ok 3 (by decide) [(1, .sl (.int .i64) w), (2, .int .i64 at0), (3, .int .i64 a), (4, .int .i64 b), (5, .bp 5 0), (52, .agg [.int .i64 l.1, .sl (.pair (.int .i64) (.int .i64)) l.2]), (53, .sl (.int .i64) w), (54, .int .i64 at0)] [(5, .box 24 [.int .i64 l.1, .sl (.pair (.int .i64) (.int .i64)) l.2])] (by (simp only [go_sem, hb2, hb11, hb16, hb20]) <;> (repeat' with_reducible apply And.intro) <;> first | assumption | rfl | omega | (unfold maxLen; omega)) ?_
          obtain ⟨v0_7, hv21, h⟩ := Option.bind_eq_some_iff.1 h
          refine AO.call tab_ok (by decide) rfl rfl rfl (fun _ h => h) [] [] (hc_weave_Exchanged l w at0 hv21) rfl (by (simp only [go_sem, hb2, hb11, hb16, hb20]) <;> (repeat' with_reducible apply And.intro) <;> first | assumption | rfl | omega | (unfold maxLen; omega)) (by (simp only [go_sem, hb2, hb11, hb16, hb20]) <;> (repeat' with_reducible apply And.intro) <;> first | assumption | rfl | omega | (unfold maxLen; omega)) [(1, .sl (.int .i64) w), (2, .int .i64 at0), (3, .int .i64 a), (4, .int .i64 b), (5, .bp 5 0), (55, .tup [.own 65000, .int .i64 v0_7.2])] [(5, .box 24 [.int .i64 l.1, .sl (.pair (.int .i64) (.int .i64)) l.2]), (65000, .arr 3 (.int .i64) v0_7.1)] (by (simp only [go_sem, hb2, hb11, hb16, hb20]) <;> (repeat' with_reducible apply And.intro) <;> first | assumption | rfl | omega | (unfold maxLen; omega)) ?_
          refine AO.allF tab_ok (by decide) [(1, .sl (.int .i64) w), (2, .int .i64 at0), (3, .int .i64 a), (4, .int .i64 b), (5, .bp 5 0), (12, .int .i64 v0_7.2), (15, .own 65000)] [(5, .box 24 [.int .i64 l.1, .sl (.pair (.int .i64) (.int .i64)) l.2]), (65000, .arr 3 (.int .i64) v0_7.1)] (by (simp only [go_sem, hb2, hb11, hb16, hb20]) <;> (repeat' with_reducible apply And.intro) <;> first | assumption | rfl | omega | (unfold maxLen; omega)) ?_
          refine athen_n ?_
          refine AW.seq ?_
          refine AW.ops ?_
          refine AO.segF tab_ok 3 (by decide) [(1, .sl (.int .i64) w), (3, .int .i64 a), (4, .int .i64 b), (5, .bp 5 0), (12, .int .i64 v0_7.2), (15, .own 65000), (59, .agg [.int .i64 l.1, .sl (.pair (.int .i64) (.int .i64)) l.2]), (60, .sl (.int .i64) w), (61, .int .i64 at0)] [(5, .box 24 [.int .i64 l.1, .sl (.pair (.int .i64) (.int .i64)) l.2]), (65000, .arr 3 (.int .i64) v0_7.1)] (by (simp only [go_sem, hb2, hb11, hb16, hb20]) <;> (repeat' with_reducible apply And.intro) <;> first | assumption | rfl | omega | (unfold maxLen; omega)) ?_
          obtain ⟨v0_8, hv22, h⟩ := Option.bind_eq_some_iff.1 h
          refine AO.call tab_ok (by decide) rfl rfl rfl (fun _ h => h) [] [] (hc_linealref03_Exchanged l w at0 hv22) rfl (by (simp only [go_sem, hb2, hb11, hb16, hb20]) <;> (repeat' with_reducible apply And.intro) <;> first | assumption | rfl | omega | (unfold maxLen; omega)) (by (simp only [go_sem, hb2, hb11, hb16, hb20]) <;> (repeat' with_reducible apply And.intro) <;> first | assumption | rfl | omega | (unfold maxLen; omega)) [(1, .sl (.int .i64) w), (3, .int .i64 a), (4, .int .i64 b), (5, .bp 5 0), (12, .int .i64 v0_7.2), (15, .own 65000), (62, .tup [.own 72000, .int .i64 v0_8.2])] [(5, .box 24 [.int .i64 l.1, .sl (.pair (.int .i64) (.int .i64)) l.2]), (65000, .arr 3 (.int .i64) v0_7.1), (72000, .arr 3 (.int .i64) v0_8.1)] (by (simp only [go_sem, hb2, hb11, hb16, hb20]) <;> (repeat' with_reducible apply And.intro) <;> first | assumption | rfl | omega | (unfold maxLen; omega)) ?_
          refine AO.allF tab_ok (by decide) [(1, .sl (.int .i64) w), (3, .int .i64 a), (4, .int .i64 b), (5, .bp 5 0), (12, .int .i64 v0_7.2), (14, .int .i64 v0_8.2), (15, .own 65000), (16, .own 72000)] [(5, .box 24 [.int .i64 l.1, .sl (.pair (.int .i64) (.int .i64)) l.2]), (65000, .arr 3 (.int .i64) v0_7.1), (72000, .arr 3 (.int .i64) v0_8.1)] (by (simp only [go_sem, hb2, hb11, hb16, hb20]) <;> (repeat' with_reducible apply And.intro) <;> first | assumption | rfl | omega | (unfold maxLen; omega)) ?_
          refine athen_n ?_
          refine AW.seq ?_
          refine AW.seq ?_
          refine AW.ops ?_
          refine AO.segF tab_ok 2 (by decide) [(1, .sl (.int .i64) w), (3, .int .i64 a), (4, .int .i64 b), (5, .bp 5 0), (12, .int .i64 v0_7.2), (14, .int .i64 v0_8.2), (65, .own 65000), (66, .own 72000)] [(5, .box 24 [.int .i64 l.1, .sl (.pair (.int .i64) (.int .i64)) l.2]), (65000, .arr 3 (.int .i64) v0_7.1), (72000, .arr 3 (.int .i64) v0_8.1)] (by (simp only [go_sem, hb2, hb11, hb16, hb20]) <;> (repeat' with_reducible apply And.intro) <;> first | assumption | rfl | omega | (unfold maxLen; omega)) ?_
          obtain ⟨v0_9, hv23, h⟩ := Option.bind_eq_some_iff.1 h
          refine AO.call tab_ok (by decide) rfl rfl rfl (fun _ h => h) [65000, 72000] [] (hc_linealref03_SameInts v0_7.1 v0_8.1 hv23) rfl (by (simp only [go_sem, hb2, hb11, hb16, hb20]) <;> (repeat' with_reducible apply And.intro) <;> first | assumption | rfl | omega | (unfold maxLen; omega)) (by (simp only [go_sem, hb2, hb11, hb16, hb20]) <;> (repeat' with_reducible apply And.intro) <;> first | assumption | rfl | omega | (unfold maxLen; omega)) [(1, .sl (.int .i64) w), (3, .int .i64 a), (4, .int .i64 b), (5, .bp 5 0), (12, .int .i64 v0_7.2), (14, .int .i64 v0_8.2), (67, .bool v0_9)] [(5, .box 24 [.int .i64 l.1, .sl (.pair (.int .i64) (.int .i64)) l.2])] (by (simp only [go_sem, hb2, hb11, hb16, hb20]) <;> (repeat' with_reducible apply And.intro) <;> first | assumption | rfl | omega | (unfold maxLen; omega)) ?_
          refine AO.segF tab_ok 2 (by decide) [(1, .sl (.int .i64) w), (3, .int .i64 a), (4, .int .i64 b), (5, .bp 5 0), (12, .int .i64 v0_7.2), (14, .int .i64 v0_8.2), (69, .bool (!v0_9))] [(5, .box 24 [.int .i64 l.1, .sl (.pair (.int .i64) (.int .i64)) l.2])] (by (simp only [go_sem, hb2, hb11, hb16, hb20]) <;> (repeat' with_reducible apply And.intro) <;> first | assumption | rfl | omega | (unfold maxLen; omega)) ?_
          rcases Bool.eq_false_or_eq_true (!v0_9) with hb24 | hb24
          · rw [if_pos hb24] at h
            refine AO.weaken (s' := ⟨fr [(1, .sl (.int .i64) w), (3, .int .i64 a), (4, .int .i64 b), (5, .bp 5 0), (12, .int .i64 v0_7.2), (14, .int .i64 v0_8.2), (69, .bool true)], hpGet [(5, .box 24 [.int .i64 l.1, .sl (.pair (.int .i64) (.int .i64)) l.2])], gt⟩) (Wk.to (by (simp only [go_sem, hb2, hb11, hb16, hb20, hb24]) <;> (repeat' with_reducible apply And.intro) <;> first | assumption | rfl | omega | (unfold maxLen; omega))) ?_
            refine AO.allF tab_ok (by decide) [(1, .sl (.int .i64) w), (3, .int .i64 a), (4, .int .i64 b), (5, .bp 5 0), (73, .bool true)] [(5, .box 24 [.int .i64 l.1, .sl (.pair (.int .i64) (.int .i64)) l.2])] (by (simp only [go_sem, hb2, hb11, hb16, hb20, hb24]) <;> (repeat' with_reducible apply And.intro) <;> first | assumption | rfl | omega | (unfold maxLen; omega)) ?_
            refine athen_n ?_
            refine AW.cond (b := true) rfl (fun _ => ?_) (fun hb25 => by cases hb25)
            refine AW.seq ?_
            refine AW.ops ?_
            refine AO.allF tab_ok (by decide) [(10, .bool false)] [] (by (simp only [go_sem, hb2, hb11, hb16, hb20, hb24]) <;> (repeat' with_reducible apply And.intro) <;> first | assumption | rfl | omega | (unfold maxLen; omega)) ?_
            refine athen_n ?_
            refine AW.ret ?_
            refine athen_r ?_
            obtain rfl := Option.some.inj h
            exact ⟨rfl, [], [], [], rfl, (by (simp only [go_sem, hb2, hb11, hb16, hb20, hb24]) <;> (repeat' with_reducible apply And.intro) <;> first | assumption | rfl | omega | (unfold maxLen; omega))⟩
          · rw [if_neg (Bool.eq_false_iff.1 hb24)] at h
            refine AO.weaken (s' := ⟨fr [(1, .sl (.int .i64) w), (3, .int .i64 a), (4, .int .i64 b), (5, .bp 5 0), (12, .int .i64 v0_7.2), (14, .int .i64 v0_8.2), (69, .bool false)], hpGet [(5, .box 24 [.int .i64 l.1, .sl (.pair (.int .i64) (.int .i64)) l.2])], gt⟩) (Wk.to (by (simp only [go_sem, hb2, hb11, hb16, hb20, hb24]) <;> (repeat' with_reducible apply And.intro) <;> first | assumption | rfl | omega | (unfold maxLen; omega))) ?_
            refine AO.allF tab_ok (by decide) [(1, .sl (.int .i64) w), (3, .int .i64 a), (4, .int .i64 b), (5, .bp 5 0), (73, .bool (!(decide (v0_7.2 = v0_8.2))))] [(5, .box 24 [.int .i64 l.1, .sl (.pair (.int .i64) (.int .i64)) l.2])] (by (simp only [go_sem, hb2, hb11, hb16, hb20, hb24]) <;> (repeat' with_reducible apply And.intro) <;> first | assumption | rfl | omega | (unfold maxLen; omega)) ?_
            refine athen_n ?_
            refine AW.cond (b := (!(decide (v0_7.2 = v0_8.2)))) rfl (fun hb26 => ?_) (fun hb26 => ?_)
            · rw [if_pos hb26] at h
              refine AW.seq ?_
              refine AW.ops ?_
              refine AO.allF tab_ok (by decide) [(10, .bool false)] [] (by (simp only [go_sem, hb2, hb11, hb16, hb20, hb24, hb26]) <;> (repeat' with_reducible apply And.intro) <;> first | assumption | rfl | omega | (unfold maxLen; omega)) ?_
              refine athen_n ?_
              refine AW.ret ?_
              refine athen_r ?_
              obtain rfl := Option.some.inj h
              exact ⟨rfl, [], [], [], rfl, (by (simp only [go_sem, hb2, hb11, hb16, hb20, hb24, hb26]) <;> (repeat' with_reducible apply And.intro) <;> first | assumption | rfl | omega | (unfold maxLen; omega))⟩
            · rw [if_neg (Bool.eq_false_iff.1 hb26)] at h
              refine AW.skip ?_
              refine athen_n ?_
              refine AW.seq ?_
              refine AW.ops ?_
              refine AO.segF tab_ok 4 (by decide) [(1, .sl (.int .i64) w), (3, .int .i64 a), (4, .int .i64 b), (5, .bp 5 0), (75, .agg [.int .i64 l.1, .sl (.pair (.int .i64) (.int .i64)) l.2]), (76, .sl (.int .i64) w), (77, .int .i64 a), (78, .int .i64 b)] [(5, .box 24 [.int .i64 l.1, .sl (.pair (.int .i64) (.int .i64)) l.2])] (by (simp only [go_sem, hb2, hb11, hb16, hb20, hb24, hb26]) <;> (repeat' with_reducible apply And.intro) <;> first | assumption | rfl | omega | (unfold maxLen; omega)) ?_
              obtain ⟨v0_10, hv27, h⟩ := Option.bind_eq_some_iff.1 h
              refine AO.call tab_ok (by decide) rfl rfl rfl (fun _ h => h) [] [] (hc_weave_Projection l w a b hv27) rfl (by (simp only [go_sem, hb2, hb11, hb16, hb20, hb24, hb26]) <;> (repeat' with_reducible apply And.intro) <;> first | assumption | rfl | omega | (unfold maxLen; omega)) (by (simp only [go_sem, hb2, hb11, hb16, hb20, hb24, hb26]) <;> (repeat' with_reducible apply And.intro) <;> first | assumption | rfl | omega | (unfold maxLen; omega)) [(1, .sl (.int .i64) w), (3, .int .i64 a), (4, .int .i64 b), (5, .bp 5 0), (79, .tup [.own 89000, .int .i64 v0_10.2])] [(5, .box 24 [.int .i64 l.1, .sl (.pair (.int .i64) (.int .i64)) l.2]), (89000, .arr 3 (.int .i64) v0_10.1)] (by (simp only [go_sem, hb2, hb11, hb16, hb20, hb24, hb26]) <;> (repeat' with_reducible apply And.intro) <;> first | assumption | rfl | omega | (unfold maxLen; omega)) ?_
              refine AO.allF tab_ok (by decide) [(1, .sl (.int .i64) w), (3, .int .i64 a), (4, .int .i64 b), (5, .bp 5 0), (12, .int .i64 v0_10.2), (15, .own 89000)] [(5, .box 24 [.int .i64 l.1, .sl (.pair (.int .i64) (.int .i64)) l.2]), (89000, .arr 3 (.int .i64) v0_10.1)] (by (simp only [go_sem, hb2, hb11, hb16, hb20, hb24, hb26]) <;> (repeat' with_reducible apply And.intro) <;> first | assumption | rfl | omega | (unfold maxLen; omega)) ?_
              refine athen_n ?_
              refine AW.seq ?_
              refine AW.ops ?_
              refine AO.segF tab_ok 4 (by decide) [(12, .int .i64 v0_10.2), (15, .own 89000), (83, .agg [.int .i64 l.1, .sl (.pair (.int .i64) (.int .i64)) l.2]), (84, .sl (.int .i64) w), (85, .int .i64 a), (86, .int .i64 b)] [(89000, .arr 3 (.int .i64) v0_10.1)] (by (simp only [go_sem, hb2, hb11, hb16, hb20, hb24, hb26]) <;> (repeat' with_reducible apply And.intro) <;> first | assumption | rfl | omega | (unfold maxLen; omega)) ?_
              obtain ⟨v0_11, hv28, h⟩ := Option.bind_eq_some_iff.1 h
              refine AO.call tab_ok (by decide) rfl rfl rfl (fun _ h => h) [] [] (hc_linealref03_Projection l w a b hv28) rfl (by (simp only [go_sem, hb2, hb11, hb16, hb20, hb24, hb26]) <;> (repeat' with_reducible apply And.intro) <;> first | assumption | rfl | omega | (unfold maxLen; omega)) (by (simp only [go_sem, hb2, hb11, hb16, hb20, hb24, hb26]) <;> (repeat' with_reducible apply And.intro) <;> first | assumption | rfl | omega | (unfold maxLen; omega)) [(12, .int .i64 v0_10.2), (15, .own 89000), (87, .tup [.own 97000, .int .i64 v0_11.2])] [(89000, .arr 3 (.int .i64) v0_10.1), (97000, .arr 3 (.int .i64) v0_11.1)] (by (simp only [go_sem, hb2, hb11, hb16, hb20, hb24, hb26]) <;> (repeat' with_reducible apply And.intro) <;> first | assumption | rfl | omega | (unfold maxLen; omega)) ?_
              refine AO.allF tab_ok (by decide) [(12, .int .i64 v0_10.2), (14, .int .i64 v0_11.2), (15, .own 89000), (16, .own 97000)] [(89000, .arr 3 (.int .i64) v0_10.1), (97000, .arr 3 (.int .i64) v0_11.1)] (by (simp only [go_sem, hb2, hb11, hb16, hb20, hb24, hb26]) <;> (repeat' with_reducible apply And.intro) <;> first | assumption | rfl | omega | (unfold maxLen; omega)) ?_
              refine athen_n ?_
              refine AW.seq ?_
              refine AW.ops ?_
              refine AO.segF tab_ok 2 (by decide) [(12, .int .i64 v0_10.2), (14, .int .i64 v0_11.2), (90, .own 89000), (91, .own 97000)] [(89000, .arr 3 (.int .i64) v0_10.1), (97000, .arr 3 (.int .i64) v0_11.1)] (by (simp only [go_sem, hb2, hb11, hb16, hb20, hb24, hb26]) <;> (repeat' with_reducible apply And.intro) <;> first | assumption | rfl | omega | (unfold maxLen; omega)) ?_
              obtain ⟨v0_12, hv29, h⟩ := Option.bind_eq_some_iff.1 h
              refine AO.call tab_ok (by decide) rfl rfl rfl (fun _ h => h) [89000, 97000] [] (hc_linealref03_SameInts v0_10.1 v0_11.1 hv29) rfl (by (simp only [go_sem, hb2, hb11, hb16, hb20, hb24, hb26]) <;> (repeat' with_reducible apply And.intro) <;> first | assumption | rfl | omega | (unfold maxLen; omega)) (by (simp only [go_sem, hb2, hb11, hb16, hb20, hb24, hb26]) <;> (repeat' with_reducible apply And.intro) <;> first | assumption | rfl | omega | (unfold maxLen; omega)) [(12, .int .i64 v0_10.2), (14, .int .i64 v0_11.2), (92, .bool v0_12)] [] (by (simp only [go_sem, hb2, hb11, hb16, hb20, hb24, hb26]) <;> (repeat' with_reducible apply And.intro) <;> first | assumption | rfl | omega | (unfold maxLen; omega)) ?_
              refine AO.segF tab_ok 1 (by decide) [(12, .int .i64 v0_10.2), (14, .int .i64 v0_11.2), (93, .bool v0_12)] [] (by (simp only [go_sem, hb2, hb11, hb16, hb20, hb24, hb26]) <;> (repeat' with_reducible apply And.intro) <;> first | assumption | rfl | omega | (unfold maxLen; omega)) ?_
              rcases Bool.eq_false_or_eq_true v0_12 with hb30 | hb30
              · rw [if_pos hb30] at h
                refine AO.weaken (s' := ⟨fr [(12, .int .i64 v0_10.2), (14, .int .i64 v0_11.2), (93, .bool true)], hpGet [], gt⟩) (Wk.to (by (simp only [go_sem, hb2, hb11, hb16, hb20, hb24, hb26, hb30]) <;> (repeat' with_reducible apply And.intro) <;> first | assumption | rfl | omega | (unfold maxLen; omega))) ?_
                refine AO.segF tab_ok 5 (by decide) [(98, .bool (decide (v0_10.2 = v0_11.2)))] [] (by (simp only [go_sem, hb2, hb11, hb16, hb20, hb24, hb26, hb30]) <;> (repeat' with_reducible apply And.intro) <;> first | assumption | rfl | omega | (unfold maxLen; omega)) ?_
                rcases Bool.eq_false_or_eq_true (decide (v0_10.2 = v0_11.2)) with hb31 | hb31
                · rw [if_pos hb31] at h
                  refine AO.weaken (s' := ⟨fr [(98, .bool true)], hpGet [], gt⟩) (Wk.to (by (simp only [go_sem, hb2, hb11, hb16, hb20, hb24, hb26, hb30, hb31]) <;> (repeat' with_reducible apply And.intro) <;> first | assumption | rfl | omega | (unfold maxLen; omega))) ?_
                  obtain ⟨v0_13, hv32, h⟩ := Option.bind_eq_some_iff.1 h
                  refine AO.call tab_ok (by decide) rfl rfl rfl (fun _ h => ⟨fun _ => h, fun hn => absurd rfl hn⟩) [] [] (hc_lineallaw03_Awake hv32) rfl (by (simp only [go_sem, hb2, hb11, hb16, hb20, hb24, hb26, hb30, hb31]) <;> (repeat' with_reducible apply And.intro) <;> first | assumption | rfl | omega | (unfold maxLen; omega)) (by (simp only [go_sem, hb2, hb11, hb16, hb20, hb24, hb26, hb30, hb31]) <;> (repeat' with_reducible apply And.intro) <;> first | assumption | rfl | omega | (unfold maxLen; omega)) [(98, .bool true), (99, .bool v0_13)] [] (by (simp only [go_sem, hb2, hb11, hb16, hb20, hb24, hb26, hb30, hb31]) <;> (repeat' with_reducible apply And.intro) <;> first | assumption | rfl | omega | (unfold maxLen; omega)) ?_
                  refine AO.allF tab_ok (by decide) [(10, .bool v0_13)] [] (by (simp only [go_sem, hb2, hb11, hb16, hb20, hb24, hb26, hb30, hb31]) <;> (repeat' with_reducible apply And.intro) <;> first | assumption | rfl | omega | (unfold maxLen; omega)) ?_
                  refine athen_n ?_
                  refine AW.ret ?_
                  obtain rfl := Option.some.inj h
                  exact ⟨rfl, [], [], [], rfl, (by (simp only [go_sem, hb2, hb11, hb16, hb20, hb24, hb26, hb30, hb31]) <;> (repeat' with_reducible apply And.intro) <;> first | assumption | rfl | omega | (unfold maxLen; omega))⟩
                · rw [if_neg (Bool.eq_false_iff.1 hb31)] at h
                  refine AO.weaken (s' := ⟨fr [(98, .bool false)], hpGet [], gt⟩) (Wk.to (by (simp only [go_sem, hb2, hb11, hb16, hb20, hb24, hb26, hb30, hb31]) <;> (repeat' with_reducible apply And.intro) <;> first | assumption | rfl | omega | (unfold maxLen; omega))) ?_
                  refine AO.allF tab_ok (by decide) [(10, .bool false)] [] (by (simp only [go_sem, hb2, hb11, hb16, hb20, hb24, hb26, hb30, hb31]) <;> (repeat' with_reducible apply And.intro) <;> first | assumption | rfl | omega | (unfold maxLen; omega)) ?_
                  refine athen_n ?_
                  refine AW.ret ?_
                  obtain rfl := Option.some.inj h
                  exact ⟨rfl, [], [], [], rfl, (by (simp only [go_sem, hb2, hb11, hb16, hb20, hb24, hb26, hb30, hb31]) <;> (repeat' with_reducible apply And.intro) <;> first | assumption | rfl | omega | (unfold maxLen; omega))⟩
              · rw [if_neg (Bool.eq_false_iff.1 hb30)] at h
                refine AO.weaken (s' := ⟨fr [(12, .int .i64 v0_10.2), (14, .int .i64 v0_11.2), (93, .bool false)], hpGet [], gt⟩) (Wk.to (by (simp only [go_sem, hb2, hb11, hb16, hb20, hb24, hb26, hb30]) <;> (repeat' with_reducible apply And.intro) <;> first | assumption | rfl | omega | (unfold maxLen; omega))) ?_
                refine AO.segF tab_ok 6 (by decide) [(98, .bool false), (99, .cv (undef))] [] (by (simp only [go_sem, hb2, hb11, hb16, hb20, hb24, hb26, hb30]) <;> (repeat' with_reducible apply And.intro) <;> first | assumption | rfl | omega | (unfold maxLen; omega)) ?_
                refine AO.allF tab_ok (by decide) [(10, .bool false)] [] (by (simp only [go_sem, hb2, hb11, hb16, hb20, hb24, hb26, hb30]) <;> (repeat' with_reducible apply And.intro) <;> first | assumption | rfl | omega | (unfold maxLen; omega)) ?_
                refine athen_n ?_
                refine AW.ret ?_
                obtain rfl := Option.some.inj h
                exact ⟨rfl, [], [], [], rfl, (by (simp only [go_sem, hb2, hb11, hb16, hb20, hb24, hb26, hb30]) <;> (repeat' with_reducible apply And.intro) <;> first | assumption | rfl | omega | (unfold maxLen; omega))⟩

end Go.Proofs.Ytcijihofjcfpoab
