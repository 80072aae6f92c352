/-
  Made by wip/tool/dc.py out of the print of the program: contracts.
-/
import Derived.Test.YtdkdkpenmgkdcaaHp
import Derived.Test.YtdkdkpenmgkdcaaTbh
import Derived.Test.YtdkdkpenmgkdcaaKgc5
namespace Go.Proofs.Ytdkdkpenmgkdcaa
open Go.RowKit

set_option linter.unusedSimpArgs false
set_option linter.unusedVariables false
set_option linter.constructorNameAsVariable false

set_option maxRecDepth 100000 in
set_option maxHeartbeats 2000000 in
theorem hc_linealref02_Valid (h0 : List (Int × Int × Int × Int × Int × Int)) {r : Bool} (h : linealref02_Valid h0 = some r) : HC Try.prog 25 [] [.sl Y1 h0] [] (.bool r) := by
  unfold linealref02_Valid at h
  refine HC.of_body tab_ok (res := [.tmp 2]) Try.func25 rfl (by kernel_rfl) rfl (nt := 80) rfl (by decide) (by simp) ?_
  refine AW.seq ?_
  refine AW.ops ?_
  refine AO.allF tab_ok (by decide) [(0, .sl Y1 h0)] [] (by (simp only [go_sem]) <;> (repeat' with_reducible apply And.intro) <;> first | assumption | rfl | omega | (unfold maxLen; omega)) ?_
  refine athen_n ?_
  refine AW.seq ?_
  refine AW.seq ?_
  refine AW.ops ?_
  refine AO.allF tab_ok (by decide) [(0, .sl Y1 h0), (8, .bool (decide (8 < (h0.length : Int))))] [] (by (simp only [go_sem]) <;> (repeat' with_reducible apply And.intro) <;> first | assumption | rfl | omega | (unfold maxLen; omega)) ?_
  refine athen_n ?_
  refine AW.cond (b := (decide (8 < (h0.length : Int)))) rfl (fun hb1 => ?_) (fun hb1 => ?_)
  · rw [if_pos hb1] at h
    refine AW.seq ?_
    refine AW.ops ?_
    refine AO.allF tab_ok (by decide) [(2, .bool false)] [] (by (simp only [go_sem, hb1]) <;> (repeat' with_reducible apply And.intro) <;> first | assumption | rfl | omega | (unfold maxLen; omega)) ?_
    refine athen_n ?_
    refine AW.ret ?_
    refine athen_r ?_
    obtain rfl := Option.some.inj h
    exact ⟨rfl, [], [], [], rfl, (by (simp only [go_sem, hb1]) <;> (repeat' with_reducible apply And.intro) <;> first | assumption | rfl | omega | (unfold maxLen; omega))⟩
  · rw [if_neg (Bool.eq_false_iff.1 hb1)] at h
    refine AW.skip ?_
    refine athen_n ?_
    refine AW.have1 (fun _ : Unit => linealref02_Valid_k1 = some r) (fun _ => ⟨fr [], hpGet [], gt⟩) (fun _ h => ?_) (fun hk_linealref02_Valid_k1 => ?_)
    · unfold linealref02_Valid_k1 at h
      refine AW.seq ?_
      refine AW.ops ?_
      refine AO.allF tab_ok (by decide) [(2, .bool true)] [] (by (simp only [go_sem, hb1]) <;> (repeat' with_reducible apply And.intro) <;> first | assumption | rfl | omega | (unfold maxLen; omega)) ?_
      refine athen_n ?_
      refine AW.ret ?_
      obtain rfl := Option.some.inj h
      exact ⟨rfl, [], [], [], rfl, (by (simp only [go_sem, hb1]) <;> (repeat' with_reducible apply And.intro) <;> first | assumption | rfl | omega | (unfold maxLen; omega))⟩
    · refine AW.seq ?_
      refine AW.seq ?_
      refine AW.ops ?_
      refine AO.allF tab_ok (by decide) [(0, .sl Y1 h0), (3, .int .i64 0)] [] (by (simp only [go_sem, hb1]) <;> (repeat' with_reducible apply And.intro) <;> first | assumption | rfl | omega | (unfold maxLen; omega)) ?_
      refine athen_n ?_
      refine AW.block ?_
      obtain ⟨rv6, hw2, ho3⟩ := Option.bind_eq_some_iff.1 h
      refine AW.loopO (linealref02_Valid_b1 h0) (fun st1 => ⟨fr [(0, .sl Y1 h0), (3, .int .i64 st1)], hpGet [], gt⟩) 0 hw2 (Wk.le [] [] [] rfl (by (simp only [go_sem, hb1]) <;> (repeat' with_reducible apply And.intro) <;> first | assumption | rfl | omega | (unfold maxLen; omega)) (by (simp only [go_sem, hb1]) <;> (repeat' with_reducible apply And.intro) <;> first | assumption | rfl | omega | (unfold maxLen; omega))) ?_
      intro st1 x5 h hd4
      unfold linealref02_Valid_b1 at h
      refine AW.seq ?_
      refine AW.seq ?_
      refine AW.ops ?_
      refine AO.allF tab_ok (by decide) [(0, .sl Y1 h0), (3, .int .i64 st1), (12, .bool (decide (st1 < (h0.length : Int))))] [] (by (simp only [go_sem, hb1]) <;> (repeat' with_reducible apply And.intro) <;> first | assumption | rfl | omega | (unfold maxLen; omega)) ?_
      refine athen_n ?_
      refine AW.cond (b := (decide (st1 < (h0.length : Int)))) rfl (fun hb7 => ?_) (fun hb7 => ?_)
      · rw [if_pos hb7] at h
        refine AW.skip ?_
        refine athen_n ?_
        refine AW.have1 (fun _ : Unit => linealref02_Valid_k2 st1 = some x5) (fun _ => ⟨fr [(0, .sl Y1 h0), (3, .int .i64 st1)], hpGet [], gt⟩) (fun _ h => ?_) (fun hk_linealref02_Valid_k2 => ?_)
        · unfold linealref02_Valid_k2 at h
          refine AW.ops ?_
          obtain ⟨c8, h⟩ := ck_some.1 h
          refine AO.allF tab_ok (by decide) [(0, .sl Y1 h0), (3, .int .i64 (st1 + 1))] [] (by (simp only [go_sem, hb1, hb7]) <;> (repeat' with_reducible apply And.intro) <;> first | assumption | rfl | omega | (unfold maxLen; omega)) ?_
          obtain rfl := Option.some.inj h
          exact ⟨_, rfl, Wk.le [] [] [] rfl (by (simp only [go_sem, hb1, hb7]) <;> (repeat' with_reducible apply And.intro) <;> first | assumption | rfl | omega | (unfold maxLen; omega)) (by (simp only [go_sem, hb1, hb7]) <;> (repeat' with_reducible apply And.intro) <;> first | assumption | rfl | omega | (unfold maxLen; omega))⟩
        · refine AW.seq ?_
          refine AW.block ?_
          refine AW.seq ?_
          refine AW.ops ?_
          obtain ⟨c9, h⟩ := ck_some.1 h
          obtain ⟨c10, h⟩ := ck_some.1 h
          refine AO.allF tab_ok (by decide) [(0, .sl Y1 h0), (3, .int .i64 st1), (4, .bp 4 0)] [(4, .box 55 [.int .i64 (h0.getD st1.toNat (0, 0, 0, 0, 0, 0)).1, .int .i64 (h0.getD st1.toNat (0, 0, 0, 0, 0, 0)).2.1, .int .i64 (h0.getD st1.toNat (0, 0, 0, 0, 0, 0)).2.2.1, .int .i64 (h0.getD st1.toNat (0, 0, 0, 0, 0, 0)).2.2.2.1, .int .i64 (h0.getD st1.toNat (0, 0, 0, 0, 0, 0)).2.2.2.2.1, .int .i64 (h0.getD st1.toNat (0, 0, 0, 0, 0, 0)).2.2.2.2.2])] (by (simp only [go_sem, hb1, hb7]) <;> (repeat' with_reducible apply And.intro) <;> first | assumption | rfl | omega | (unfold maxLen; omega)) ?_
          refine athen_n ?_
          refine AW.seq ?_
          refine AW.seq ?_
          refine AW.ops ?_
          refine AO.segF tab_ok 2 (by decide) [(0, .sl Y1 h0), (3, .int .i64 st1), (4, .bp 4 0), (20, .int .i64 (h0.getD st1.toNat (0, 0, 0, 0, 0, 0)).1)] [(4, .box 55 [.int .i64 (h0.getD st1.toNat (0, 0, 0, 0, 0, 0)).1, .int .i64 (h0.getD st1.toNat (0, 0, 0, 0, 0, 0)).2.1, .int .i64 (h0.getD st1.toNat (0, 0, 0, 0, 0, 0)).2.2.1, .int .i64 (h0.getD st1.toNat (0, 0, 0, 0, 0, 0)).2.2.2.1, .int .i64 (h0.getD st1.toNat (0, 0, 0, 0, 0, 0)).2.2.2.2.1, .int .i64 (h0.getD st1.toNat (0, 0, 0, 0, 0, 0)).2.2.2.2.2])] (by (simp only [go_sem, hb1, hb7]) <;> (repeat' with_reducible apply And.intro) <;> first | assumption | rfl | omega | (unfold maxLen; omega)) ?_
          obtain ⟨v0, hv11, h⟩ := Option.bind_eq_some_iff.1 h
          refine AO.call tab_ok (by decide) rfl rfl rfl (fun _ h => h) [] [] (hc_linealref02_within 0 (h0.getD st1.toNat (0, 0, 0, 0, 0, 0)).1 3 hv11) rfl (by (simp only [go_sem, hb1, hb7]) <;> (repeat' with_reducible apply And.intro) <;> first | assumption | rfl | omega | (unfold maxLen; omega)) (by (simp only [go_sem, hb1, hb7]) <;> (repeat' with_reducible apply And.intro) <;> first | assumption | rfl | omega | (unfold maxLen; omega)) [(0, .sl Y1 h0), (3, .int .i64 st1), (4, .bp 4 0), (21, .bool v0)] [(4, .box 55 [.int .i64 (h0.getD st1.toNat (0, 0, 0, 0, 0, 0)).1, .int .i64 (h0.getD st1.toNat (0, 0, 0, 0, 0, 0)).2.1, .int .i64 (h0.getD st1.toNat (0, 0, 0, 0, 0, 0)).2.2.1, .int .i64 (h0.getD st1.toNat (0, 0, 0, 0, 0, 0)).2.2.2.1, .int .i64 (h0.getD st1.toNat (0, 0, 0, 0, 0, 0)).2.2.2.2.1, .int .i64 (h0.getD st1.toNat (0, 0, 0, 0, 0, 0)).2.2.2.2.2])] (by (simp only [go_sem, hb1, hb7]) <;> (repeat' with_reducible apply And.intro) <;> first | assumption | rfl | omega | (unfold maxLen; omega)) ?_
          refine AO.segF tab_ok 2 (by decide) [(0, .sl Y1 h0), (3, .int .i64 st1), (4, .bp 4 0), (23, .bool (!v0))] [(4, .box 55 [.int .i64 (h0.getD st1.toNat (0, 0, 0, 0, 0, 0)).1, .int .i64 (h0.getD st1.toNat (0, 0, 0, 0, 0, 0)).2.1, .int .i64 (h0.getD st1.toNat (0, 0, 0, 0, 0, 0)).2.2.1, .int .i64 (h0.getD st1.toNat (0, 0, 0, 0, 0, 0)).2.2.2.1, .int .i64 (h0.getD st1.toNat (0, 0, 0, 0, 0, 0)).2.2.2.2.1, .int .i64 (h0.getD st1.toNat (0, 0, 0, 0, 0, 0)).2.2.2.2.2])] (by (simp only [go_sem, hb1, hb7]) <;> (repeat' with_reducible apply And.intro) <;> first | assumption | rfl | omega | (unfold maxLen; omega)) ?_
          rcases Bool.eq_false_or_eq_true (!v0) with hb12 | hb12
          · rw [if_pos hb12] at h
            refine AO.weaken (s' := ⟨fr [(0, .sl Y1 h0), (3, .int .i64 st1), (4, .bp 4 0), (23, .bool true)], hpGet [(4, .box 55 [.int .i64 (h0.getD st1.toNat (0, 0, 0, 0, 0, 0)).1, .int .i64 (h0.getD st1.toNat (0, 0, 0, 0, 0, 0)).2.1, .int .i64 (h0.getD st1.toNat (0, 0, 0, 0, 0, 0)).2.2.1, .int .i64 (h0.getD st1.toNat (0, 0, 0, 0, 0, 0)).2.2.2.1, .int .i64 (h0.getD st1.toNat (0, 0, 0, 0, 0, 0)).2.2.2.2.1, .int .i64 (h0.getD st1.toNat (0, 0, 0, 0, 0, 0)).2.2.2.2.2])], gt⟩) (Wk.to (by (simp only [go_sem, hb1, hb7, hb12]) <;> (repeat' with_reducible apply And.intro) <;> first | assumption | rfl | omega | (unfold maxLen; omega))) ?_
            refine AO.segF tab_ok 4 (by decide) [(0, .sl Y1 h0), (3, .int .i64 st1), (4, .bp 4 0), (23, .bool true), (27, .cv (undef))] [(4, .box 55 [.int .i64 (h0.getD st1.toNat (0, 0, 0, 0, 0, 0)).1, .int .i64 (h0.getD st1.toNat (0, 0, 0, 0, 0, 0)).2.1, .int .i64 (h0.getD st1.toNat (0, 0, 0, 0, 0, 0)).2.2.1, .int .i64 (h0.getD st1.toNat (0, 0, 0, 0, 0, 0)).2.2.2.1, .int .i64 (h0.getD st1.toNat (0, 0, 0, 0, 0, 0)).2.2.2.2.1, .int .i64 (h0.getD st1.toNat (0, 0, 0, 0, 0, 0)).2.2.2.2.2])] (by (simp only [go_sem, hb1, hb7, hb12]) <;> (repeat' with_reducible apply And.intro) <;> first | assumption | rfl | omega | (unfold maxLen; omega)) ?_
            refine AO.segF tab_ok 6 (by decide) [(0, .sl Y1 h0), (3, .int .i64 st1), (4, .bp 4 0), (29, .bool true), (33, .cv (undef))] [(4, .box 55 [.int .i64 (h0.getD st1.toNat (0, 0, 0, 0, 0, 0)).1, .int .i64 (h0.getD st1.toNat (0, 0, 0, 0, 0, 0)).2.1, .int .i64 (h0.getD st1.toNat (0, 0, 0, 0, 0, 0)).2.2.1, .int .i64 (h0.getD st1.toNat (0, 0, 0, 0, 0, 0)).2.2.2.1, .int .i64 (h0.getD st1.toNat (0, 0, 0, 0, 0, 0)).2.2.2.2.1, .int .i64 (h0.getD st1.toNat (0, 0, 0, 0, 0, 0)).2.2.2.2.2])] (by (simp only [go_sem, hb1, hb7, hb12]) <;> (repeat' with_reducible apply And.intro) <;> first | assumption | rfl | omega | (unfold maxLen; omega)) ?_
            refine AO.segF tab_ok 6 (by decide) [(0, .sl Y1 h0), (3, .int .i64 st1), (4, .bp 4 0), (35, .bool true), (39, .cv (undef))] [(4, .box 55 [.int .i64 (h0.getD st1.toNat (0, 0, 0, 0, 0, 0)).1, .int .i64 (h0.getD st1.toNat (0, 0, 0, 0, 0, 0)).2.1, .int .i64 (h0.getD st1.toNat (0, 0, 0, 0, 0, 0)).2.2.1, .int .i64 (h0.getD st1.toNat (0, 0, 0, 0, 0, 0)).2.2.2.1, .int .i64 (h0.getD st1.toNat (0, 0, 0, 0, 0, 0)).2.2.2.2.1, .int .i64 (h0.getD st1.toNat (0, 0, 0, 0, 0, 0)).2.2.2.2.2])] (by (simp only [go_sem, hb1, hb7, hb12]) <;> (repeat' with_reducible apply And.intro) <;> first | assumption | rfl | omega | (unfold maxLen; omega)) ?_
            refine AO.segF tab_ok 6 (by decide) [(0, .sl Y1 h0), (3, .int .i64 st1), (4, .bp 4 0), (41, .bool true), (45, .cv (undef))] [(4, .box 55 [.int .i64 (h0.getD st1.toNat (0, 0, 0, 0, 0, 0)).1, .int .i64 (h0.getD st1.toNat (0, 0, 0, 0, 0, 0)).2.1, .int .i64 (h0.getD st1.toNat (0, 0, 0, 0, 0, 0)).2.2.1, .int .i64 (h0.getD st1.toNat (0, 0, 0, 0, 0, 0)).2.2.2.1, .int .i64 (h0.getD st1.toNat (0, 0, 0, 0, 0, 0)).2.2.2.2.1, .int .i64 (h0.getD st1.toNat (0, 0, 0, 0, 0, 0)).2.2.2.2.2])] (by (simp only [go_sem, hb1, hb7, hb12]) <;> (repeat' with_reducible apply And.intro) <;> first | assumption | rfl | omega | (unfold maxLen; omega)) ?_
            refine AO.allF tab_ok (by decide) [(0, .sl Y1 h0), (3, .int .i64 st1), (4, .bp 4 0), (46, .bool true)] [(4, .box 55 [.int .i64 (h0.getD st1.toNat (0, 0, 0, 0, 0, 0)).1, .int .i64 (h0.getD st1.toNat (0, 0, 0, 0, 0, 0)).2.1, .int .i64 (h0.getD st1.toNat (0, 0, 0, 0, 0, 0)).2.2.1, .int .i64 (h0.getD st1.toNat (0, 0, 0, 0, 0, 0)).2.2.2.1, .int .i64 (h0.getD st1.toNat (0, 0, 0, 0, 0, 0)).2.2.2.2.1, .int .i64 (h0.getD st1.toNat (0, 0, 0, 0, 0, 0)).2.2.2.2.2])] (by (simp only [go_sem, hb1, hb7, hb12]) <;> (repeat' with_reducible apply And.intro) <;> first | assumption | rfl | omega | (unfold maxLen; omega)) ?_
            refine athen_n ?_
            refine AW.cond (b := true) rfl (fun _ => ?_) (fun hb13 => by cases hb13)
            refine AW.seq ?_
            refine AW.ops ?_
            refine AO.allF tab_ok (by decide) [(2, .bool false)] [] (by (simp only [go_sem, hb1, hb7, hb12]) <;> (repeat' with_reducible apply And.intro) <;> first | assumption | rfl | omega | (unfold maxLen; omega)) ?_
            refine athen_n ?_
            refine AW.ret ?_
            refine athen_r ?_
            refine ablock_r ?_
            refine athen_r ?_
            obtain rfl := Option.some.inj h
            rw [← hd4 _ rfl] at ho3
            have h := ho3
            try simp only at h
            refine athen_r ?_
            refine ablock_r ?_
            refine athen_r ?_
            obtain rfl := Option.some.inj h
            exact ⟨rfl, [], [], [], rfl, (by (simp only [go_sem, hb1, hb7, hb12]) <;> (repeat' with_reducible apply And.intro) <;> first | assumption | rfl | omega | (unfold maxLen; omega))⟩
          · rw [if_neg (Bool.eq_false_iff.1 hb12)] at h
            refine AO.weaken (s' := ⟨fr [(0, .sl Y1 h0), (3, .int .i64 st1), (4, .bp 4 0), (23, .bool false)], hpGet [(4, .box 55 [.int .i64 (h0.getD st1.toNat (0, 0, 0, 0, 0, 0)).1, .int .i64 (h0.getD st1.toNat (0, 0, 0, 0, 0, 0)).2.1, .int .i64 (h0.getD st1.toNat (0, 0, 0, 0, 0, 0)).2.2.1, .int .i64 (h0.getD st1.toNat (0, 0, 0, 0, 0, 0)).2.2.2.1, .int .i64 (h0.getD st1.toNat (0, 0, 0, 0, 0, 0)).2.2.2.2.1, .int .i64 (h0.getD st1.toNat (0, 0, 0, 0, 0, 0)).2.2.2.2.2])], gt⟩) (Wk.to (by (simp only [go_sem, hb1, hb7, hb12]) <;> (repeat' with_reducible apply And.intro) <;> first | assumption | rfl | omega | (unfold maxLen; omega))) ?_
            refine AO.segF tab_ok 2 (by decide) [(0, .sl Y1 h0), (3, .int .i64 st1), (4, .bp 4 0), (23, .bool false), (25, .int .i64 (h0.getD st1.toNat (0, 0, 0, 0, 0, 0)).2.1)] [(4, .box 55 [.int .i64 (h0.getD st1.toNat (0, 0, 0, 0, 0, 0)).1, .int .i64 (h0.getD st1.toNat (0, 0, 0, 0, 0, 0)).2.1, .int .i64 (h0.getD st1.toNat (0, 0, 0, 0, 0, 0)).2.2.1, .int .i64 (h0.getD st1.toNat (0, 0, 0, 0, 0, 0)).2.2.2.1, .int .i64 (h0.getD st1.toNat (0, 0, 0, 0, 0, 0)).2.2.2.2.1, .int .i64 (h0.getD st1.toNat (0, 0, 0, 0, 0, 0)).2.2.2.2.2])] (by (simp only [go_sem, hb1, hb7, hb12]) <;> (repeat' with_reducible apply And.intro) <;> first | assumption | rfl | omega | (unfold maxLen; omega)) ?_
            obtain ⟨v0_2, hv14, h⟩ := Option.bind_eq_some_iff.1 h
            refine AO.call tab_ok (by decide) rfl rfl rfl (fun _ h => ⟨fun _ => h, fun hn => absurd rfl hn⟩) [] [] (hc_linealref02_within 0 (h0.getD st1.toNat (0, 0, 0, 0, 0, 0)).2.1 1 hv14) rfl (by (simp only [go_sem, hb1, hb7, hb12]) <;> (repeat' with_reducible apply And.intro) <;> first | assumption | rfl | omega | (unfold maxLen; omega)) (by (simp only [go_sem, hb1, hb7, hb12]) <;> (repeat' with_reducible apply And.intro) <;> first | assumption | rfl | omega | (unfold maxLen; omega)) [(0, .sl Y1 h0), (3, .int .i64 st1), (4, .bp 4 0), (23, .bool false), (26, .bool v0_2)] [(4, .box 55 [.int .i64 (h0.getD st1.toNat (0, 0, 0, 0, 0, 0)).1, .int .i64 (h0.getD st1.toNat (0, 0, 0, 0, 0, 0)).2.1, .int .i64 (h0.getD st1.toNat (0, 0, 0, 0, 0, 0)).2.2.1, .int .i64 (h0.getD st1.toNat (0, 0, 0, 0, 0, 0)).2.2.2.1, .int .i64 (h0.getD st1.toNat (0, 0, 0, 0, 0, 0)).2.2.2.2.1, .int .i64 (h0.getD st1.toNat (0, 0, 0, 0, 0, 0)).2.2.2.2.2])] (by (simp only [go_sem, hb1, hb7, hb12]) <;> (repeat' with_reducible apply And.intro) <;> first | assumption | rfl | omega | (unfold maxLen; omega)) ?_
            refine AO.segF tab_ok 3 (by decide) [(0, .sl Y1 h0), (3, .int .i64 st1), (4, .bp 4 0), (29, .bool (!v0_2))] [(4, .box 55 [.int .i64 (h0.getD st1.toNat (0, 0, 0, 0, 0, 0)).1, .int .i64 (h0.getD st1.toNat (0, 0, 0, 0, 0, 0)).2.1, .int .i64 (h0.getD st1.toNat (0, 0, 0, 0, 0, 0)).2.2.1, .int .i64 (h0.getD st1.toNat (0, 0, 0, 0, 0, 0)).2.2.2.1, .int .i64 (h0.getD st1.toNat (0, 0, 0, 0, 0, 0)).2.2.2.2.1, .int .i64 (h0.getD st1.toNat (0, 0, 0, 0, 0, 0)).2.2.2.2.2])] (by (simp only [go_sem, hb1, hb7, hb12]) <;> (repeat' with_reducible apply And.intro) <;> first | assumption | rfl | omega | (unfold maxLen; omega)) ?_
            rcases Bool.eq_false_or_eq_true (!v0_2) with hb15 | hb15
            · rw [if_pos hb15] at h
              refine AO.weaken (s' := ⟨fr [(0, .sl Y1 h0), (3, .int .i64 st1), (4, .bp 4 0), (29, .bool true)], hpGet [(4, .box 55 [.int .i64 (h0.getD st1.toNat (0, 0, 0, 0, 0, 0)).1, .int .i64 (h0.getD st1.toNat (0, 0, 0, 0, 0, 0)).2.1, .int .i64 (h0.getD st1.toNat (0, 0, 0, 0, 0, 0)).2.2.1, .int .i64 (h0.getD st1.toNat (0, 0, 0, 0, 0, 0)).2.2.2.1, .int .i64 (h0.getD st1.toNat (0, 0, 0, 0, 0, 0)).2.2.2.2.1, .int .i64 (h0.getD st1.toNat (0, 0, 0, 0, 0, 0)).2.2.2.2.2])], gt⟩) (Wk.to (by (simp only [go_sem, hb1, hb7, hb12, hb15]) <;> (repeat' with_reducible apply And.intro) <;> first | assumption | rfl | omega | (unfold maxLen; omega))) ?_
              refine AO.segF tab_ok 4 (by decide) [(0, .sl Y1 h0), (3, .int .i64 st1), (4, .bp 4 0), (29, .bool true), (33, .cv (undef))] [(4, .box 55 [.int .i64 (h0.getD st1.toNat (0, 0, 0, 0, 0, 0)).1, .int .i64 (h0.getD st1.toNat (0, 0, 0, 0, 0, 0)).2.1, .int .i64 (h0.getD st1.toNat (0, 0, 0, 0, 0, 0)).2.2.1, .int .i64 (h0.getD st1.toNat (0, 0, 0, 0, 0, 0)).2.2.2.1, .int .i64 (h0.getD st1.toNat (0, 0, 0, 0, 0, 0)).2.2.2.2.1, .int .i64 (h0.getD st1.toNat (0, 0, 0, 0, 0, 0)).2.2.2.2.2])] (by (simp only [go_sem, hb1, hb7, hb12, hb15]) <;> (repeat' with_reducible apply And.intro) <;> first | assumption | rfl | omega | (unfold maxLen; omega)) ?_
              refine AO.segF tab_ok 6 (by decide) [(0, .sl Y1 h0), (3, .int .i64 st1), (4, .bp 4 0), (35, .bool true), (39, .cv (undef))] [(4, .box 55 [.int .i64 (h0.getD st1.toNat (0, 0, 0, 0, 0, 0)).1, .int .i64 (h0.getD st1.toNat (0, 0, 0, 0, 0, 0)).2.1, .int .i64 (h0.getD st1.toNat (0, 0, 0, 0, 0, 0)).2.2.1, .int .i64 (h0.getD st1.toNat (0, 0, 0, 0, 0, 0)).2.2.2.1, .int .i64 (h0.getD st1.toNat (0, 0, 0, 0, 0, 0)).2.2.2.2.1, .int .i64 (h0.getD st1.toNat (0, 0, 0, 0, 0, 0)).2.2.2.2.2])] (by (simp only [go_sem, hb1, hb7, hb12, hb15]) <;> (repeat' with_reducible apply And.intro) <;> first | assumption | rfl | omega | (unfold maxLen; omega)) ?_
              refine AO.segF tab_ok 6 (by decide) [(0, .sl Y1 h0), (3, .int .i64 st1), (4, .bp 4 0), (41, .bool true), (45, .cv (undef))] [(4, .box 55 [.int .i64 (h0.getD st1.toNat (0, 0, 0, 0, 0, 0)).1, .int .i64 (h0.getD st1.toNat (0, 0, 0, 0, 0, 0)).2.1, .int .i64 (h0.getD st1.toNat (0, 0, 0, 0, 0, 0)).2.2.1, .int .i64 (h0.getD st1.toNat (0, 0, 0, 0, 0, 0)).2.2.2.1, .int .i64 (h0.getD st1.toNat (0, 0, 0, 0, 0, 0)).2.2.2.2.1, .int .i64 (h0.getD st1.toNat (0, 0, 0, 0, 0, 0)).2.2.2.2.2])] (by (simp only [go_sem, hb1, hb7, hb12, hb15]) <;> (repeat' with_reducible apply And.intro) <;> first | assumption | rfl | omega | (unfold maxLen; omega)) ?_
              refine AO.allF tab_ok (by decide) [(0, .sl Y1 h0), (3, .int .i64 st1), (4, .bp 4 0), (46, .bool true)] [(4, .box 55 [.int .i64 (h0.getD st1.toNat (0, 0, 0, 0, 0, 0)).1, .int .i64 (h0.getD st1.toNat (0, 0, 0, 0, 0, 0)).2.1, .int .i64 (h0.getD st1.toNat (0, 0, 0, 0, 0, 0)).2.2.1, .int .i64 (h0.getD st1.toNat (0, 0, 0, 0, 0, 0)).2.2.2.1, .int .i64 (h0.getD st1.toNat (0, 0, 0, 0, 0, 0)).2.2.2.2.1, .int .i64 (h0.getD st1.toNat (0, 0, 0, 0, 0, 0)).2.2.2.2.2])] (by (simp only [go_sem, hb1, hb7, hb12, hb15]) <;> (repeat' with_reducible apply And.intro) <;> first | assumption | rfl | omega | (unfold maxLen; omega)) ?_
              refine athen_n ?_
              refine AW.cond (b := true) rfl (fun _ => ?_) (fun hb16 => by cases hb16)
              refine AW.seq ?_
              refine AW.ops ?_
              refine AO.allF tab_ok (by decide) [(2, .bool false)] [] (by (simp only [go_sem, hb1, hb7, hb12, hb15]) <;> (repeat' with_reducible apply And.intro) <;> first | assumption | rfl | omega | (unfold maxLen; omega)) ?_
              refine athen_n ?_
              refine AW.ret ?_
              refine athen_r ?_
              refine ablock_r ?_
              refine athen_r ?_
              obtain rfl := Option.some.inj h
              rw [← hd4 _ rfl] at ho3
              have h := ho3
              try simp only at h
              refine athen_r ?_
              refine ablock_r ?_
              refine athen_r ?_
              obtain rfl := Option.some.inj h
              exact ⟨rfl, [], [], [], rfl, (by (simp only [go_sem, hb1, hb7, hb12, hb15]) <;> (repeat' with_reducible apply And.intro) <;> first | assumption | rfl | omega | (unfold maxLen; omega))⟩
            · rw [if_neg (Bool.eq_false_iff.1 hb15)] at h
              refine AO.weaken (s' := ⟨fr [(0, .sl Y1 h0), (3, .int .i64 st1), (4, .bp 4 0), (29, .bool false)], hpGet [(4, .box 55 [.int .i64 (h0.getD st1.toNat (0, 0, 0, 0, 0, 0)).1, .int .i64 (h0.getD st1.toNat (0, 0, 0, 0, 0, 0)).2.1, .int .i64 (h0.getD st1.toNat (0, 0, 0, 0, 0, 0)).2.2.1, .int .i64 (h0.getD st1.toNat (0, 0, 0, 0, 0, 0)).2.2.2.1, .int .i64 (h0.getD st1.toNat (0, 0, 0, 0, 0, 0)).2.2.2.2.1, .int .i64 (h0.getD st1.toNat (0, 0, 0, 0, 0, 0)).2.2.2.2.2])], gt⟩) (Wk.to (by (simp only [go_sem, hb1, hb7, hb12, hb15]) <;> (repeat' with_reducible apply And.intro) <;> first | assumption | rfl | omega | (unfold maxLen; omega))) ?_
              refine AO.segF tab_ok 2 (by decide) [(0, .sl Y1 h0), (3, .int .i64 st1), (4, .bp 4 0), (29, .bool false), (31, .int .i64 (h0.getD st1.toNat (0, 0, 0, 0, 0, 0)).2.2.1)] [(4, .box 55 [.int .i64 (h0.getD st1.toNat (0, 0, 0, 0, 0, 0)).1, .int .i64 (h0.getD st1.toNat (0, 0, 0, 0, 0, 0)).2.1, .int .i64 (h0.getD st1.toNat (0, 0, 0, 0, 0, 0)).2.2.1, .int .i64 (h0.getD st1.toNat (0, 0, 0, 0, 0, 0)).2.2.2.1, .int .i64 (h0.getD st1.toNat (0, 0, 0, 0, 0, 0)).2.2.2.2.1, .int .i64 (h0.getD st1.toNat (0, 0, 0, 0, 0, 0)).2.2.2.2.2])] (by (simp only [go_sem, hb1, hb7, hb12, hb15]) <;> (repeat' with_reducible apply And.intro) <;> first | assumption | rfl | omega | (unfold maxLen; omega)) ?_
              obtain ⟨v0_3, hv17, h⟩ := Option.bind_eq_some_iff.1 h
              refine AO.call tab_ok (by decide) rfl rfl rfl (fun _ h => ⟨fun _ => h, fun hn => absurd rfl hn⟩) [] [] (hc_linealref02_within 0 (h0.getD st1.toNat (0, 0, 0, 0, 0, 0)).2.2.1 3 hv17) rfl (by (simp only [go_sem, hb1, hb7, hb12, hb15]) <;> (repeat' with_reducible apply And.intro) <;> first | assumption | rfl | omega | (unfold maxLen; omega)) (by (simp only [go_sem, hb1, hb7, hb12, hb15]) <;> (repeat' with_reducible apply And.intro) <;> first | assumption | rfl | omega | (unfold maxLen; omega)) [(0, .sl Y1 h0), (3, .int .i64 st1), (4, .bp 4 0), (29, .bool false), (32, .bool v0_3)] [(4, .box 55 [.int .i64 (h0.getD st1.toNat (0, 0, 0, 0, 0, 0)).1, .int .i64 (h0.getD st1.toNat (0, 0, 0, 0, 0, 0)).2.1, .int .i64 (h0.getD st1.toNat (0, 0, 0, 0, 0, 0)).2.2.1, .int .i64 (h0.getD st1.toNat (0, 0, 0, 0, 0, 0)).2.2.2.1, .int .i64 (h0.getD st1.toNat (0, 0, 0, 0, 0, 0)).2.2.2.2.1, .int .i64 (h0.getD st1.toNat (0, 0, 0, 0, 0, 0)).2.2.2.2.2])] (by (simp only [go_sem, hb1, hb7, hb12, hb15]) <;> (repeat' with_reducible apply And.intro) <;> first | assumption | rfl | omega | (unfold maxLen; omega)) ?_
              refine AO.segF tab_ok 3 (by decide) [(0, .sl Y1 h0), (3, .int .i64 st1), (4, .bp 4 0), (35, .bool (!v0_3))] [(4, .box 55 [.int .i64 (h0.getD st1.toNat (0, 0, 0, 0, 0, 0)).1, .int .i64 (h0.getD st1.toNat (0, 0, 0, 0, 0, 0)).2.1, .int .i64 (h0.getD st1.toNat (0, 0, 0, 0, 0, 0)).2.2.1, .int .i64 (h0.getD st1.toNat (0, 0, 0, 0, 0, 0)).2.2.2.1, .int .i64 (h0.getD st1.toNat (0, 0, 0, 0, 0, 0)).2.2.2.2.1, .int .i64 (h0.getD st1.toNat (0, 0, 0, 0, 0, 0)).2.2.2.2.2])] (by (simp only [go_sem, hb1, hb7, hb12, hb15]) <;> (repeat' with_reducible apply And.intro) <;> first | assumption | rfl | omega | (unfold maxLen; omega)) ?_
              rcases Bool.eq_false_or_eq_true (!v0_3) with hb18 | hb18
              · rw [if_pos hb18] at h
                refine AO.weaken (s' := ⟨fr [(0, .sl Y1 h0), (3, .int .i64 st1), (4, .bp 4 0), (35, .bool true)], hpGet [(4, .box 55 [.int .i64 (h0.getD st1.toNat (0, 0, 0, 0, 0, 0)).1, .int .i64 (h0.getD st1.toNat (0, 0, 0, 0, 0, 0)).2.1, .int .i64 (h0.getD st1.toNat (0, 0, 0, 0, 0, 0)).2.2.1, .int .i64 (h0.getD st1.toNat (0, 0, 0, 0, 0, 0)).2.2.2.1, .int .i64 (h0.getD st1.toNat (0, 0, 0, 0, 0, 0)).2.2.2.2.1, .int .i64 (h0.getD st1.toNat (0, 0, 0, 0, 0, 0)).2.2.2.2.2])], gt⟩) (Wk.to (by (simp only [go_sem, hb1, hb7, hb12, hb15, hb18]) <;> (repeat' with_reducible apply And.intro) <;> first | assumption | rfl | omega | (unfold maxLen; omega))) ?_
                refine AO.segF tab_ok 4 (by decide) [(0, .sl Y1 h0), (3, .int .i64 st1), (4, .bp 4 0), (35, .bool true), (39, .cv (undef))] [(4, .box 55 [.int .i64 (h0.getD st1.toNat (0, 0, 0, 0, 0, 0)).1, .int .i64 (h0.getD st1.toNat (0, 0, 0, 0, 0, 0)).2.1, .int .i64 (h0.getD st1.toNat (0, 0, 0, 0, 0, 0)).2.2.1, .int .i64 (h0.getD st1.toNat (0, 0, 0, 0, 0, 0)).2.2.2.1, .int .i64 (h0.getD st1.toNat (0, 0, 0, 0, 0, 0)).2.2.2.2.1, .int .i64 (h0.getD st1.toNat (0, 0, 0, 0, 0, 0)).2.2.2.2.2])] (by (simp only [go_sem, hb1, hb7, hb12, hb15, hb18]) <;> (repeat' with_reducible apply And.intro) <;> first | assumption | rfl | omega | (unfold maxLen; omega)) ?_
                refine AO.segF tab_ok 6 (by decide) [(0, .sl Y1 h0), (3, .int .i64 st1), (4, .bp 4 0), (41, .bool true), (45, .cv (undef))] [(4, .box 55 [.int .i64 (h0.getD st1.toNat (0, 0, 0, 0, 0, 0)).1, .int .i64 (h0.getD st1.toNat (0, 0, 0, 0, 0, 0)).2.1, .int .i64 (h0.getD st1.toNat (0, 0, 0, 0, 0, 0)).2.2.1, .int .i64 (h0.getD st1.toNat (0, 0, 0, 0, 0, 0)).2.2.2.1, .int .i64 (h0.getD st1.toNat (0, 0, 0, 0, 0, 0)).2.2.2.2.1, .int .i64 (h0.getD st1.toNat (0, 0, 0, 0, 0, 0)).2.2.2.2.2])] (by (simp only [go_sem, hb1, hb7, hb12, hb15, hb18]) <;> (repeat' with_reducible apply And.intro) <;> first | assumption | rfl | omega | (unfold maxLen; omega)) ?_
                refine AO.allF tab_ok (by decide) [(0, .sl Y1 h0), (3, .int .i64 st1), (4, .bp 4 0), (46, .bool true)] [(4, .box 55 [.int .i64 (h0.getD st1.toNat (0, 0, 0, 0, 0, 0)).1, .int .i64 (h0.getD st1.toNat (0, 0, 0, 0, 0, 0)).2.1, .int .i64 (h0.getD st1.toNat (0, 0, 0, 0, 0, 0)).2.2.1, .int .i64 (h0.getD st1.toNat (0, 0, 0, 0, 0, 0)).2.2.2.1, .int .i64 (h0.getD st1.toNat (0, 0, 0, 0, 0, 0)).2.2.2.2.1, .int .i64 (h0.getD st1.toNat (0, 0, 0, 0, 0, 0)).2.2.2.2.2])] (by (simp only [go_sem, hb1, hb7, hb12, hb15, hb18]) <;> (repeat' with_reducible apply And.intro) <;> first | assumption | rfl | omega | (unfold maxLen; omega)) ?_
                refine athen_n ?_
                refine AW.cond (b := true) rfl (fun _ => ?_) (fun hb19 => by cases hb19)
                refine AW.seq ?_
                refine AW.ops ?_
                refine AO.allF tab_ok (by decide) [(2, .bool false)] [] (by (simp only [go_sem, hb1, hb7, hb12, hb15, hb18]) <;> (repeat' with_reducible apply And.intro) <;> first | assumption | rfl | omega | (unfold maxLen; omega)) ?_
                refine athen_n ?_
                refine AW.ret ?_
                refine athen_r ?_
                refine ablock_r ?_
                refine athen_r ?_
                obtain rfl := Option.some.inj h
                rw [← hd4 _ rfl] at ho3
                have h := ho3
                try simp only at h
                refine athen_r ?_
                refine ablock_r ?_
                refine athen_r ?_
                obtain rfl := Option.some.inj h
                exact ⟨rfl, [], [], [], rfl, (by (simp only [go_sem, hb1, hb7, hb12, hb15, hb18]) <;> (repeat' with_reducible apply And.intro) <;> first | assumption | rfl | omega | (unfold maxLen; omega))⟩
              · rw [if_neg (Bool.eq_false_iff.1 hb18)] at h
                refine AO.weaken (s' := ⟨fr [(0, .sl Y1 h0), (3, .int .i64 st1), (4, .bp 4 0), (35, .bool false)], hpGet [(4, .box 55 [.int .i64 (h0.getD st1.toNat (0, 0, 0, 0, 0, 0)).1, .int .i64 (h0.getD st1.toNat (0, 0, 0, 0, 0, 0)).2.1, .int .i64 (h0.getD st1.toNat (0, 0, 0, 0, 0, 0)).2.2.1, .int .i64 (h0.getD st1.toNat (0, 0, 0, 0, 0, 0)).2.2.2.1, .int .i64 (h0.getD st1.toNat (0, 0, 0, 0, 0, 0)).2.2.2.2.1, .int .i64 (h0.getD st1.toNat (0, 0, 0, 0, 0, 0)).2.2.2.2.2])], gt⟩) (Wk.to (by (simp only [go_sem, hb1, hb7, hb12, hb15, hb18]) <;> (repeat' with_reducible apply And.intro) <;> first | assumption | rfl | omega | (unfold maxLen; omega))) ?_
                refine AO.segF tab_ok 2 (by decide) [(0, .sl Y1 h0), (3, .int .i64 st1), (4, .bp 4 0), (35, .bool false), (37, .int .i64 (h0.getD st1.toNat (0, 0, 0, 0, 0, 0)).2.2.2.1)] [(4, .box 55 [.int .i64 (h0.getD st1.toNat (0, 0, 0, 0, 0, 0)).1, .int .i64 (h0.getD st1.toNat (0, 0, 0, 0, 0, 0)).2.1, .int .i64 (h0.getD st1.toNat (0, 0, 0, 0, 0, 0)).2.2.1, .int .i64 (h0.getD st1.toNat (0, 0, 0, 0, 0, 0)).2.2.2.1, .int .i64 (h0.getD st1.toNat (0, 0, 0, 0, 0, 0)).2.2.2.2.1, .int .i64 (h0.getD st1.toNat (0, 0, 0, 0, 0, 0)).2.2.2.2.2])] (by (simp only [go_sem, hb1, hb7, hb12, hb15, hb18]) <;> (repeat' with_reducible apply And.intro) <;> first | assumption | rfl | omega | (unfold maxLen; omega)) ?_
                obtain ⟨v0_4, hv20, h⟩ := Option.bind_eq_some_iff.1 h
                refine AO.call tab_ok (by decide) rfl rfl rfl (fun _ h => ⟨fun _ => h, fun hn => absurd rfl hn⟩) [] [] (hc_linealref02_within 0 (h0.getD st1.toNat (0, 0, 0, 0, 0, 0)).2.2.2.1 9 hv20) rfl (by (simp only [go_sem, hb1, hb7, hb12, hb15, hb18]) <;> (repeat' with_reducible apply And.intro) <;> first | assumption | rfl | omega | (unfold maxLen; omega)) (by (simp only [go_sem, hb1, hb7, hb12, hb15, hb18]) <;> (repeat' with_reducible apply And.intro) <;> first | assumption | rfl | omega | (unfold maxLen; omega)) [(0, .sl Y1 h0), (3, .int .i64 st1), (4, .bp 4 0), (35, .bool false), (38, .bool v0_4)] [(4, .box 55 [.int .i64 (h0.getD st1.toNat (0, 0, 0, 0, 0, 0)).1, .int .i64 (h0.getD st1.toNat (0, 0, 0, 0, 0, 0)).2.1, .int .i64 (h0.getD st1.toNat (0, 0, 0, 0, 0, 0)).2.2.1, .int .i64 (h0.getD st1.toNat (0, 0, 0, 0, 0, 0)).2.2.2.1, .int .i64 (h0.getD st1.toNat (0, 0, 0, 0, 0, 0)).2.2.2.2.1, .int .i64 (h0.getD st1.toNat (0, 0, 0, 0, 0, 0)).2.2.2.2.2])] (by (simp only [go_sem, hb1, hb7, hb12, hb15, hb18]) <;> (repeat' with_reducible apply And.intro) <;> first | assumption | rfl | omega | (unfold maxLen; omega)) ?_
                refine AO.segF tab_ok 3 (by decide) [(0, .sl Y1 h0), (3, .int .i64 st1), (4, .bp 4 0), (41, .bool (!v0_4))] [(4, .box 55 [.int .i64 (h0.getD st1.toNat (0, 0, 0, 0, 0, 0)).1, .int .i64 (h0.getD st1.toNat (0, 0, 0, 0, 0, 0)).2.1, .int .i64 (h0.getD st1.toNat (0, 0, 0, 0, 0, 0)).2.2.1, .int .i64 (h0.getD st1.toNat (0, 0, 0, 0, 0, 0)).2.2.2.1, .int .i64 (h0.getD st1.toNat (0, 0, 0, 0, 0, 0)).2.2.2.2.1, .int .i64 (h0.getD st1.toNat (0, 0, 0, 0, 0, 0)).2.2.2.2.2])] (by (simp only [go_sem, hb1, hb7, hb12, hb15, hb18]) <;> (repeat' with_reducible apply And.intro) <;> first | assumption | rfl | omega | (unfold maxLen; omega)) ?_
                rcases Bool.eq_false_or_eq_true (!v0_4) with hb21 | hb21
                · rw [if_pos hb21] at h
                  refine AO.weaken (s' := ⟨fr [(0, .sl Y1 h0), (3, .int .i64 st1), (4, .bp 4 0), (41, .bool true)], hpGet [(4, .box 55 [.int .i64 (h0.getD st1.toNat (0, 0, 0, 0, 0, 0)).1, .int .i64 (h0.getD st1.toNat (0, 0, 0, 0, 0, 0)).2.1, .int .i64 (h0.getD st1.toNat (0, 0, 0, 0, 0, 0)).2.2.1, .int .i64 (h0.getD st1.toNat (0, 0, 0, 0, 0, 0)).2.2.2.1, .int .i64 (h0.getD st1.toNat (0, 0, 0, 0, 0, 0)).2.2.2.2.1, .int .i64 (h0.getD st1.toNat (0, 0, 0, 0, 0, 0)).2.2.2.2.2])], gt⟩) (Wk.to (by (simp only [go_sem, hb1, hb7, hb12, hb15, hb18, hb21]) <;> (repeat' with_reducible apply And.intro) <;> first | assumption | rfl | omega | (unfold maxLen; omega))) ?_
                  refine AO.segF tab_ok 4 (by decide) [(0, .sl Y1 h0), (3, .int .i64 st1), (4, .bp 4 0), (41, .bool true), (45, .cv (undef))] [(4, .box 55 [.int .i64 (h0.getD st1.toNat (0, 0, 0, 0, 0, 0)).1, .int .i64 (h0.getD st1.toNat (0, 0, 0, 0, 0, 0)).2.1, .int .i64 (h0.getD st1.toNat (0, 0, 0, 0, 0, 0)).2.2.1, .int .i64 (h0.getD st1.toNat (0, 0, 0, 0, 0, 0)).2.2.2.1, .int .i64 (h0.getD st1.toNat (0, 0, 0, 0, 0, 0)).2.2.2.2.1, .int .i64 (h0.getD st1.toNat (0, 0, 0, 0, 0, 0)).2.2.2.2.2])] (by (simp only [go_sem, hb1, hb7, hb12, hb15, hb18, hb21]) <;> (repeat' with_reducible apply And.intro) <;> first | assumption | rfl | omega | (unfold maxLen; omega)) ?_
                  refine AO.allF tab_ok (by decide) [(0, .sl Y1 h0), (3, .int .i64 st1), (4, .bp 4 0), (46, .bool true)] [(4, .box 55 [.int .i64 (h0.getD st1.toNat (0, 0, 0, 0, 0, 0)).1, .int .i64 (h0.getD st1.toNat (0, 0, 0, 0, 0, 0)).2.1, .int .i64 (h0.getD st1.toNat (0, 0, 0, 0, 0, 0)).2.2.1, .int .i64 (h0.getD st1.toNat (0, 0, 0, 0, 0, 0)).2.2.2.1, .int .i64 (h0.getD st1.toNat (0, 0, 0, 0, 0, 0)).2.2.2.2.1, .int .i64 (h0.getD st1.toNat (0, 0, 0, 0, 0, 0)).2.2.2.2.2])] (by (simp only [go_sem, hb1, hb7, hb12, hb15, hb18, hb21]) <;> (repeat' with_reducible apply And.intro) <;> first | assumption | rfl | omega | (unfold maxLen; omega)) ?_
                  refine athen_n ?_
                  refine AW.cond (b := true) rfl (fun _ => ?_) (fun hb22 => by cases hb22)
                  refine AW.seq ?_
                  refine AW.ops ?_
                  refine AO.allF tab_ok (by decide) [(2, .bool false)] [] (by (simp only [go_sem, hb1, hb7, hb12, hb15, hb18, hb21]) <;> (repeat' with_reducible apply And.intro) <;> first | assumption | rfl | omega | (unfold maxLen; omega)) ?_
                  refine athen_n ?_
                  refine AW.ret ?_
                  refine athen_r ?_
                  refine ablock_r ?_
                  refine athen_r ?_
                  obtain rfl := Option.some.inj h
                  rw [← hd4 _ rfl] at ho3
                  have h := ho3
                  try simp only at h
                  refine athen_r ?_
                  refine ablock_r ?_
                  refine athen_r ?_
                  obtain rfl := Option.some.inj h
                  exact ⟨rfl, [], [], [], rfl, (by (simp only [go_sem, hb1, hb7, hb12, hb15, hb18, hb21]) <;> (repeat' with_reducible apply And.intro) <;> first | assumption | rfl | omega | (unfold maxLen; omega))⟩
                · rw [if_neg (Bool.eq_false_iff.1 hb21)] at h
                  refine AO.weaken (s' := ⟨fr [(0, .sl Y1 h0), (3, .int .i64 st1), (4, .bp 4 0), (41, .bool false)], hpGet [(4, .box 55 [.int .i64 (h0.getD st1.toNat (0, 0, 0, 0, 0, 0)).1, .int .i64 (h0.getD st1.toNat (0, 0, 0, 0, 0, 0)).2.1, .int .i64 (h0.getD st1.toNat (0, 0, 0, 0, 0, 0)).2.2.1, .int .i64 (h0.getD st1.toNat (0, 0, 0, 0, 0, 0)).2.2.2.1, .int .i64 (h0.getD st1.toNat (0, 0, 0, 0, 0, 0)).2.2.2.2.1, .int .i64 (h0.getD st1.toNat (0, 0, 0, 0, 0, 0)).2.2.2.2.2])], gt⟩) (Wk.to (by (simp only [go_sem, hb1, hb7, hb12, hb15, hb18, hb21]) <;> (repeat' with_reducible apply And.intro) <;> first | assumption | rfl | omega | (unfold maxLen; omega))) ?_
                  refine AO.segF tab_ok 2 (by decide) [(0, .sl Y1 h0), (3, .int .i64 st1), (4, .bp 4 0), (41, .bool false), (43, .int .i64 (h0.getD st1.toNat (0, 0, 0, 0, 0, 0)).2.2.2.2.1)] [(4, .box 55 [.int .i64 (h0.getD st1.toNat (0, 0, 0, 0, 0, 0)).1, .int .i64 (h0.getD st1.toNat (0, 0, 0, 0, 0, 0)).2.1, .int .i64 (h0.getD st1.toNat (0, 0, 0, 0, 0, 0)).2.2.1, .int .i64 (h0.getD st1.toNat (0, 0, 0, 0, 0, 0)).2.2.2.1, .int .i64 (h0.getD st1.toNat (0, 0, 0, 0, 0, 0)).2.2.2.2.1, .int .i64 (h0.getD st1.toNat (0, 0, 0, 0, 0, 0)).2.2.2.2.2])] (by (simp only [go_sem, hb1, hb7, hb12, hb15, hb18, hb21]) <;> (repeat' with_reducible apply And.intro) <;> first | assumption | rfl | omega | (unfold maxLen; omega)) ?_
                  obtain ⟨v0_5, hv23, h⟩ := Option.bind_eq_some_iff.1 h
                  refine AO.call tab_ok (by decide) rfl rfl rfl (fun _ h => ⟨fun _ => h, fun hn => absurd rfl hn⟩) [] [] (hc_linealref02_within 1 (h0.getD st1.toNat (0, 0, 0, 0, 0, 0)).2.2.2.2.1 100 hv23) rfl (by (simp only [go_sem, hb1, hb7, hb12, hb15, hb18, hb21]) <;> (repeat' with_reducible apply And.intro) <;> first | assumption | rfl | omega | (unfold maxLen; omega)) (by (simp only [go_sem, hb1, hb7, hb12, hb15, hb18, hb21]) <;> (repeat' with_reducible apply And.intro) <;> first | assumption | rfl | omega | (unfold maxLen; omega)) [(0, .sl Y1 h0), (3, .int .i64 st1), (4, .bp 4 0), (41, .bool false), (44, .bool v0_5)] [(4, .box 55 [.int .i64 (h0.getD st1.toNat (0, 0, 0, 0, 0, 0)).1, .int .i64 (h0.getD st1.toNat (0, 0, 0, 0, 0, 0)).2.1, .int .i64 (h0.getD st1.toNat (0, 0, 0, 0, 0, 0)).2.2.1, .int .i64 (h0.getD st1.toNat (0, 0, 0, 0, 0, 0)).2.2.2.1, .int .i64 (h0.getD st1.toNat (0, 0, 0, 0, 0, 0)).2.2.2.2.1, .int .i64 (h0.getD st1.toNat (0, 0, 0, 0, 0, 0)).2.2.2.2.2])] (by (simp only [go_sem, hb1, hb7, hb12, hb15, hb18, hb21]) <;> (repeat' with_reducible apply And.intro) <;> first | assumption | rfl | omega | (unfold maxLen; omega)) ?_
                  refine AO.allF tab_ok (by decide) [(0, .sl Y1 h0), (3, .int .i64 st1), (4, .bp 4 0), (46, .bool (!v0_5))] [(4, .box 55 [.int .i64 (h0.getD st1.toNat (0, 0, 0, 0, 0, 0)).1, .int .i64 (h0.getD st1.toNat (0, 0, 0, 0, 0, 0)).2.1, .int .i64 (h0.getD st1.toNat (0, 0, 0, 0, 0, 0)).2.2.1, .int .i64 (h0.getD st1.toNat (0, 0, 0, 0, 0, 0)).2.2.2.1, .int .i64 (h0.getD st1.toNat (0, 0, 0, 0, 0, 0)).2.2.2.2.1, .int .i64 (h0.getD st1.toNat (0, 0, 0, 0, 0, 0)).2.2.2.2.2])] (by (simp only [go_sem, hb1, hb7, hb12, hb15, hb18, hb21]) <;> (repeat' with_reducible apply And.intro) <;> first | assumption | rfl | omega | (unfold maxLen; omega)) ?_
                  refine athen_n ?_
                  refine AW.cond (b := (!v0_5)) rfl (fun hb24 => ?_) (fun hb24 => ?_)
                  · rw [if_pos hb24] at h
                    refine AW.seq ?_
                    refine AW.ops ?_
                    refine AO.allF tab_ok (by decide) [(2, .bool false)] [] (by (simp only [go_sem, hb1, hb7, hb12, hb15, hb18, hb21, hb24]) <;> (repeat' with_reducible apply And.intro) <;> first | assumption | rfl | omega | (unfold maxLen; omega)) ?_
                    refine athen_n ?_
                    refine AW.ret ?_
                    refine athen_r ?_
                    refine ablock_r ?_
                    refine athen_r ?_
                    obtain rfl := Option.some.inj h
                    rw [← hd4 _ rfl] at ho3
                    have h := ho3
                    try simp only at h
                    refine athen_r ?_
                    refine ablock_r ?_
                    refine athen_r ?_
                    obtain rfl := Option.some.inj h
                    exact ⟨rfl, [], [], [], rfl, (by (simp only [go_sem, hb1, hb7, hb12, hb15, hb18, hb21, hb24]) <;> (repeat' with_reducible apply And.intro) <;> first | assumption | rfl | omega | (unfold maxLen; omega))⟩
                  · rw [if_neg (Bool.eq_false_iff.1 hb24)] at h
                    refine AW.skip ?_
                    refine athen_n ?_
                    refine AW.have2 (fun _ : Unit => linealref02_Valid_k3 h0 st1 = some x5) (fun _ => ⟨fr [(0, .sl Y1 h0), (3, .int .i64 st1), (4, .bp 4 0), (5, .int .i64 0)], hpGet [(4, .box 55 [.int .i64 (h0.getD st1.toNat (0, 0, 0, 0, 0, 0)).1, .int .i64 (h0.getD st1.toNat (0, 0, 0, 0, 0, 0)).2.1, .int .i64 (h0.getD st1.toNat (0, 0, 0, 0, 0, 0)).2.2.1, .int .i64 (h0.getD st1.toNat (0, 0, 0, 0, 0, 0)).2.2.2.1, .int .i64 (h0.getD st1.toNat (0, 0, 0, 0, 0, 0)).2.2.2.2.1, .int .i64 (h0.getD st1.toNat (0, 0, 0, 0, 0, 0)).2.2.2.2.2])], gt⟩) (fun _ h => ?_) (fun hk_linealref02_Valid_k3 => ?_)
                    · unfold linealref02_Valid_k3 at h
                      refine AW.block ?_
                      obtain ⟨rv29, hw25, ho26⟩ := Option.bind_eq_some_iff.1 h
                      refine AW.loopO (linealref02_Valid_b2 h0 st1) (fun st2 => ⟨fr [(0, .sl Y1 h0), (3, .int .i64 st1), (4, .bp 4 0), (5, .int .i64 st2)], hpGet [(4, .box 55 [.int .i64 (h0.getD st1.toNat (0, 0, 0, 0, 0, 0)).1, .int .i64 (h0.getD st1.toNat (0, 0, 0, 0, 0, 0)).2.1, .int .i64 (h0.getD st1.toNat (0, 0, 0, 0, 0, 0)).2.2.1, .int .i64 (h0.getD st1.toNat (0, 0, 0, 0, 0, 0)).2.2.2.1, .int .i64 (h0.getD st1.toNat (0, 0, 0, 0, 0, 0)).2.2.2.2.1, .int .i64 (h0.getD st1.toNat (0, 0, 0, 0, 0, 0)).2.2.2.2.2])], gt⟩) 0 hw25 (Wk.le [] [] [] rfl (by (simp only [go_sem, hb1, hb7, hb12, hb15, hb18, hb21, hb24]) <;> (repeat' with_reducible apply And.intro) <;> first | assumption | rfl | omega | (unfold maxLen; omega)) (by (simp only [go_sem, hb1, hb7, hb12, hb15, hb18, hb21, hb24]) <;> (repeat' with_reducible apply And.intro) <;> first | assumption | rfl | omega | (unfold maxLen; omega))) ?_
                      intro st2 x28 h hd27
                      unfold linealref02_Valid_b2 at h
                      refine AW.seq ?_
                      refine AW.seq ?_
                      refine AW.ops ?_
                      refine AO.allF tab_ok (by decide) [(0, .sl Y1 h0), (3, .int .i64 st1), (4, .bp 4 0), (5, .int .i64 st2), (71, .bool (decide (st2 < st1)))] [(4, .box 55 [.int .i64 (h0.getD st1.toNat (0, 0, 0, 0, 0, 0)).1, .int .i64 (h0.getD st1.toNat (0, 0, 0, 0, 0, 0)).2.1, .int .i64 (h0.getD st1.toNat (0, 0, 0, 0, 0, 0)).2.2.1, .int .i64 (h0.getD st1.toNat (0, 0, 0, 0, 0, 0)).2.2.2.1, .int .i64 (h0.getD st1.toNat (0, 0, 0, 0, 0, 0)).2.2.2.2.1, .int .i64 (h0.getD st1.toNat (0, 0, 0, 0, 0, 0)).2.2.2.2.2])] (by (simp only [go_sem, hb1, hb7, hb12, hb15, hb18, hb21, hb24]) <;> (repeat' with_reducible apply And.intro) <;> first | assumption | rfl | omega | (unfold maxLen; omega)) ?_
                      refine athen_n ?_
                      refine AW.cond (b := (decide (st2 < st1))) rfl (fun hb30 => ?_) (fun hb30 => ?_)
                      · rw [if_pos hb30] at h
                        refine AW.skip ?_
                        refine athen_n ?_
                        refine AW.seq ?_
                        refine AW.block ?_
                        refine AW.seq ?_
                        refine AW.draw tab_ok mixed_ok [] [] (by decide) (by kernel_rfl) ?_
                        obtain ⟨c32, h⟩ := ck_some.1 h
                        obtain ⟨c33, h⟩ := ck_some.1 h
                        refine adops_cut 5 (fun K' hK31 => ?_)
                        try dsimp only [List.drop_succ_cons, List.drop_zero, List.take_succ_cons, List.take_zero]
                        simp only [go_sem, hb1, hb7, hb12, hb15, hb18, hb21, hb24, hb30]
                        repeat (with_reducible refine And.intro (by first | assumption | rfl | omega | trivial | (unfold maxLen; omega)) ?_)
                        refine hK31 _ ?_
                        obtain ⟨v0_7, hv34, h⟩ := Option.bind_eq_some_iff.1 h
                        refine adops.call (by first | trivial | rfl) rfl rfl rfl (fun _ h => h) [] [] (hc_linealref02_meets (h0.getD st1.toNat (0, 0, 0, 0, 0, 0)) (h0.getD st2.toNat (0, 0, 0, 0, 0, 0)) hv34) rfl (by (simp only [go_sem, hb1, hb7, hb12, hb15, hb18, hb21, hb24, hb30]) <;> (repeat' with_reducible apply And.intro) <;> first | assumption | rfl | omega | (unfold maxLen; omega)) (by (simp only [go_sem, hb1, hb7, hb12, hb15, hb18, hb21, hb24, hb30]) <;> (repeat' with_reducible apply And.intro) <;> first | assumption | rfl | omega | (unfold maxLen; omega)) rfl ?_
                        refine adops_cut 0 (fun K' hK35 => ?_)
                        try dsimp only [List.drop_succ_cons, List.drop_zero, List.take_succ_cons, List.take_zero]
                        simp only [go_sem, hb1, hb7, hb12, hb15, hb18, hb21, hb24, hb30]
                        repeat (with_reducible refine And.intro (by first | assumption | rfl | omega | trivial | (unfold maxLen; omega)) ?_)
                        refine hK35 _ ?_
                        refine adops_nil ?_
                        refine athen_n ?_
                        refine AW.weaken (s' := ⟨fr [(0, .sl Y1 h0), (3, .int .i64 st1), (4, .bp 4 0), (5, .int .i64 st2), (79, .bool v0_7)], hpGet [(4, .box 55 [.int .i64 (h0.getD st1.toNat (0, 0, 0, 0, 0, 0)).1, .int .i64 (h0.getD st1.toNat (0, 0, 0, 0, 0, 0)).2.1, .int .i64 (h0.getD st1.toNat (0, 0, 0, 0, 0, 0)).2.2.1, .int .i64 (h0.getD st1.toNat (0, 0, 0, 0, 0, 0)).2.2.2.1, .int .i64 (h0.getD st1.toNat (0, 0, 0, 0, 0, 0)).2.2.2.2.1, .int .i64 (h0.getD st1.toNat (0, 0, 0, 0, 0, 0)).2.2.2.2.2])], gt⟩) (Wk.to (by (simp only [go_sem, hb1, hb7, hb12, hb15, hb18, hb21, hb24, hb30]) <;> (repeat' with_reducible apply And.intro) <;> first | assumption | rfl | omega | (unfold maxLen; omega))) ?_
                        refine AW.cond (b := v0_7) rfl (fun hb36 => ?_) (fun hb36 => ?_)
                        · rw [if_pos hb36] at h
                          refine AW.seq ?_
                          refine AW.ops ?_
                          refine AO.allF tab_ok (by decide) [(2, .bool false)] [] (by (simp only [go_sem, hb1, hb7, hb12, hb15, hb18, hb21, hb24, hb30, hb36]) <;> (repeat' with_reducible apply And.intro) <;> first | assumption | rfl | omega | (unfold maxLen; omega)) ?_
                          refine athen_n ?_
                          refine AW.ret ?_
                          refine ablock_r ?_
                          refine athen_r ?_
                          obtain rfl := Option.some.inj h
                          rw [← hd27 _ rfl] at ho26
                          have h := ho26
                          try simp only at h
                          refine athen_r ?_
                          refine ablock_r ?_
                          refine ablock_r ?_
                          refine athen_r ?_
                          obtain rfl := Option.some.inj h
                          rw [← hd4 _ rfl] at ho3
                          have h := ho3
                          try simp only at h
                          refine athen_r ?_
                          refine ablock_r ?_
                          refine athen_r ?_
                          obtain rfl := Option.some.inj h
                          exact ⟨rfl, [], [], [], rfl, (by (simp only [go_sem, hb1, hb7, hb12, hb15, hb18, hb21, hb24, hb30, hb36]) <;> (repeat' with_reducible apply And.intro) <;> first | assumption | rfl | omega | (unfold maxLen; omega))⟩
                        · rw [if_neg (Bool.eq_false_iff.1 hb36)] at h
                          refine AW.skip ?_
                          refine ablock_n ?_
                          refine athen_n ?_
                          refine AW.ops ?_
                          obtain ⟨c37, h⟩ := ck_some.1 h
                          refine AO.allF tab_ok (by decide) [(0, .sl Y1 h0), (3, .int .i64 st1), (4, .bp 4 0), (5, .int .i64 (st2 + 1))] [(4, .box 55 [.int .i64 (h0.getD st1.toNat (0, 0, 0, 0, 0, 0)).1, .int .i64 (h0.getD st1.toNat (0, 0, 0, 0, 0, 0)).2.1, .int .i64 (h0.getD st1.toNat (0, 0, 0, 0, 0, 0)).2.2.1, .int .i64 (h0.getD st1.toNat (0, 0, 0, 0, 0, 0)).2.2.2.1, .int .i64 (h0.getD st1.toNat (0, 0, 0, 0, 0, 0)).2.2.2.2.1, .int .i64 (h0.getD st1.toNat (0, 0, 0, 0, 0, 0)).2.2.2.2.2])] (by (simp only [go_sem, hb1, hb7, hb12, hb15, hb18, hb21, hb24, hb30, hb36]) <;> (repeat' with_reducible apply And.intro) <;> first | assumption | rfl | omega | (unfold maxLen; omega)) ?_
                          obtain rfl := Option.some.inj h
                          exact ⟨_, rfl, Wk.le [] [] [] rfl (by (simp only [go_sem, hb1, hb7, hb12, hb15, hb18, hb21, hb24, hb30, hb36]) <;> (repeat' with_reducible apply And.intro) <;> first | assumption | rfl | omega | (unfold maxLen; omega)) (by (simp only [go_sem, hb1, hb7, hb12, hb15, hb18, hb21, hb24, hb30, hb36]) <;> (repeat' with_reducible apply And.intro) <;> first | assumption | rfl | omega | (unfold maxLen; omega))⟩
                      · rw [if_neg (Bool.eq_false_iff.1 hb30)] at h
                        refine AW.exit ?_
                        refine athen_e ?_
                        obtain rfl := Option.some.inj h
                        rw [← hd27 _ rfl] at ho26
                        have h := ho26
                        try simp only at h
                        refine athen_e ?_
                        refine ablock_s ?_
                        refine ablock_n ?_
                        refine athen_n ?_
                        exact AW.weaken (Wk.le [] [] [] rfl (by (simp only [go_sem, hb1, hb7, hb12, hb15, hb18, hb21, hb24, hb30]) <;> (repeat' with_reducible apply And.intro) <;> first | assumption | rfl | omega | (unfold maxLen; omega)) (by (simp only [go_sem, hb1, hb7, hb12, hb15, hb18, hb21, hb24, hb30]) <;> (repeat' with_reducible apply And.intro) <;> first | assumption | rfl | omega | (unfold maxLen; omega))) (hk_linealref02_Valid_k2 () h)
                    · refine AW.seq ?_
                      refine AW.seq ?_
                      refine AW.ops ?_
                      refine AO.segF tab_ok 4 (by decide) [(0, .sl Y1 h0), (3, .int .i64 st1), (4, .bp 4 0), (50, .bool (decide ((h0.getD st1.toNat (0, 0, 0, 0, 0, 0)).2.2.2.2.2 = 0)))] [(4, .box 55 [.int .i64 (h0.getD st1.toNat (0, 0, 0, 0, 0, 0)).1, .int .i64 (h0.getD st1.toNat (0, 0, 0, 0, 0, 0)).2.1, .int .i64 (h0.getD st1.toNat (0, 0, 0, 0, 0, 0)).2.2.1, .int .i64 (h0.getD st1.toNat (0, 0, 0, 0, 0, 0)).2.2.2.1, .int .i64 (h0.getD st1.toNat (0, 0, 0, 0, 0, 0)).2.2.2.2.1, .int .i64 (h0.getD st1.toNat (0, 0, 0, 0, 0, 0)).2.2.2.2.2])] (by (simp only [go_sem, hb1, hb7, hb12, hb15, hb18, hb21, hb24]) <;> (repeat' with_reducible apply And.intro) <;> first | assumption | rfl | omega | (unfold maxLen; omega)) ?_
                      rcases Bool.eq_false_or_eq_true (decide ((h0.getD st1.toNat (0, 0, 0, 0, 0, 0)).2.2.2.2.2 = 0)) with hb38 | hb38
                      · rw [if_pos hb38] at h
                        refine AO.weaken (s' := ⟨fr [(0, .sl Y1 h0), (3, .int .i64 st1), (4, .bp 4 0), (50, .bool true)], hpGet [(4, .box 55 [.int .i64 (h0.getD st1.toNat (0, 0, 0, 0, 0, 0)).1, .int .i64 (h0.getD st1.toNat (0, 0, 0, 0, 0, 0)).2.1, .int .i64 (h0.getD st1.toNat (0, 0, 0, 0, 0, 0)).2.2.1, .int .i64 (h0.getD st1.toNat (0, 0, 0, 0, 0, 0)).2.2.2.1, .int .i64 (h0.getD st1.toNat (0, 0, 0, 0, 0, 0)).2.2.2.2.1, .int .i64 (h0.getD st1.toNat (0, 0, 0, 0, 0, 0)).2.2.2.2.2])], gt⟩) (Wk.to (by (simp only [go_sem, hb1, hb7, hb12, hb15, hb18, hb21, hb24, hb38]) <;> (repeat' with_reducible apply And.intro) <;> first | assumption | rfl | omega | (unfold maxLen; omega))) ?_
                        refine AO.segF tab_ok 5 (by decide) [(0, .sl Y1 h0), (3, .int .i64 st1), (4, .bp 4 0), (55, .bool (!(decide ((h0.getD st1.toNat (0, 0, 0, 0, 0, 0)).2.2.2.1 = 0))))] [(4, .box 55 [.int .i64 (h0.getD st1.toNat (0, 0, 0, 0, 0, 0)).1, .int .i64 (h0.getD st1.toNat (0, 0, 0, 0, 0, 0)).2.1, .int .i64 (h0.getD st1.toNat (0, 0, 0, 0, 0, 0)).2.2.1, .int .i64 (h0.getD st1.toNat (0, 0, 0, 0, 0, 0)).2.2.2.1, .int .i64 (h0.getD st1.toNat (0, 0, 0, 0, 0, 0)).2.2.2.2.1, .int .i64 (h0.getD st1.toNat (0, 0, 0, 0, 0, 0)).2.2.2.2.2])] (by (simp only [go_sem, hb1, hb7, hb12, hb15, hb18, hb21, hb24, hb38]) <;> (repeat' with_reducible apply And.intro) <;> first | assumption | rfl | omega | (unfold maxLen; omega)) ?_
                        rcases Bool.eq_false_or_eq_true (!(decide ((h0.getD st1.toNat (0, 0, 0, 0, 0, 0)).2.2.2.1 = 0))) with hb39 | hb39
                        · rw [if_pos hb39] at h
                          refine AO.weaken (s' := ⟨fr [(0, .sl Y1 h0), (3, .int .i64 st1), (4, .bp 4 0), (55, .bool true)], hpGet [(4, .box 55 [.int .i64 (h0.getD st1.toNat (0, 0, 0, 0, 0, 0)).1, .int .i64 (h0.getD st1.toNat (0, 0, 0, 0, 0, 0)).2.1, .int .i64 (h0.getD st1.toNat (0, 0, 0, 0, 0, 0)).2.2.1, .int .i64 (h0.getD st1.toNat (0, 0, 0, 0, 0, 0)).2.2.2.1, .int .i64 (h0.getD st1.toNat (0, 0, 0, 0, 0, 0)).2.2.2.2.1, .int .i64 (h0.getD st1.toNat (0, 0, 0, 0, 0, 0)).2.2.2.2.2])], gt⟩) (Wk.to (by (simp only [go_sem, hb1, hb7, hb12, hb15, hb18, hb21, hb24, hb38, hb39]) <;> (repeat' with_reducible apply And.intro) <;> first | assumption | rfl | omega | (unfold maxLen; omega))) ?_
                          refine AO.segF tab_ok 4 (by decide) [(0, .sl Y1 h0), (3, .int .i64 st1), (4, .bp 4 0), (55, .bool true), (59, .cv (undef))] [(4, .box 55 [.int .i64 (h0.getD st1.toNat (0, 0, 0, 0, 0, 0)).1, .int .i64 (h0.getD st1.toNat (0, 0, 0, 0, 0, 0)).2.1, .int .i64 (h0.getD st1.toNat (0, 0, 0, 0, 0, 0)).2.2.1, .int .i64 (h0.getD st1.toNat (0, 0, 0, 0, 0, 0)).2.2.2.1, .int .i64 (h0.getD st1.toNat (0, 0, 0, 0, 0, 0)).2.2.2.2.1, .int .i64 (h0.getD st1.toNat (0, 0, 0, 0, 0, 0)).2.2.2.2.2])] (by (simp only [go_sem, hb1, hb7, hb12, hb15, hb18, hb21, hb24, hb38, hb39]) <;> (repeat' with_reducible apply And.intro) <;> first | assumption | rfl | omega | (unfold maxLen; omega)) ?_
                          refine AO.segF tab_ok 4 (by decide) [(0, .sl Y1 h0), (3, .int .i64 st1), (4, .bp 4 0), (55, .bool true), (59, .cv (undef)), (62, .cv (undef)), (63, .cv (undef))] [(4, .box 55 [.int .i64 (h0.getD st1.toNat (0, 0, 0, 0, 0, 0)).1, .int .i64 (h0.getD st1.toNat (0, 0, 0, 0, 0, 0)).2.1, .int .i64 (h0.getD st1.toNat (0, 0, 0, 0, 0, 0)).2.2.1, .int .i64 (h0.getD st1.toNat (0, 0, 0, 0, 0, 0)).2.2.2.1, .int .i64 (h0.getD st1.toNat (0, 0, 0, 0, 0, 0)).2.2.2.2.1, .int .i64 (h0.getD st1.toNat (0, 0, 0, 0, 0, 0)).2.2.2.2.2])] (by (simp only [go_sem, hb1, hb7, hb12, hb15, hb18, hb21, hb24, hb38, hb39]) <;> (repeat' with_reducible apply And.intro) <;> first | assumption | rfl | omega | (unfold maxLen; omega)) ?_
                          refine AO.segF tab_ok 4 (by decide) [(0, .sl Y1 h0), (3, .int .i64 st1), (4, .bp 4 0), (55, .bool true), (67, .cv (undef))] [(4, .box 55 [.int .i64 (h0.getD st1.toNat (0, 0, 0, 0, 0, 0)).1, .int .i64 (h0.getD st1.toNat (0, 0, 0, 0, 0, 0)).2.1, .int .i64 (h0.getD st1.toNat (0, 0, 0, 0, 0, 0)).2.2.1, .int .i64 (h0.getD st1.toNat (0, 0, 0, 0, 0, 0)).2.2.2.1, .int .i64 (h0.getD st1.toNat (0, 0, 0, 0, 0, 0)).2.2.2.2.1, .int .i64 (h0.getD st1.toNat (0, 0, 0, 0, 0, 0)).2.2.2.2.2])] (by (simp only [go_sem, hb1, hb7, hb12, hb15, hb18, hb21, hb24, hb38, hb39]) <;> (repeat' with_reducible apply And.intro) <;> first | assumption | rfl | omega | (unfold maxLen; omega)) ?_
                          refine AO.allF tab_ok (by decide) [(0, .sl Y1 h0), (3, .int .i64 st1), (4, .bp 4 0), (68, .bool true)] [(4, .box 55 [.int .i64 (h0.getD st1.toNat (0, 0, 0, 0, 0, 0)).1, .int .i64 (h0.getD st1.toNat (0, 0, 0, 0, 0, 0)).2.1, .int .i64 (h0.getD st1.toNat (0, 0, 0, 0, 0, 0)).2.2.1, .int .i64 (h0.getD st1.toNat (0, 0, 0, 0, 0, 0)).2.2.2.1, .int .i64 (h0.getD st1.toNat (0, 0, 0, 0, 0, 0)).2.2.2.2.1, .int .i64 (h0.getD st1.toNat (0, 0, 0, 0, 0, 0)).2.2.2.2.2])] (by (simp only [go_sem, hb1, hb7, hb12, hb15, hb18, hb21, hb24, hb38, hb39]) <;> (repeat' with_reducible apply And.intro) <;> first | assumption | rfl | omega | (unfold maxLen; omega)) ?_
                          refine athen_n ?_
                          refine AW.cond (b := true) rfl (fun _ => ?_) (fun hb40 => by cases hb40)
                          refine AW.seq ?_
                          refine AW.ops ?_
                          refine AO.allF tab_ok (by decide) [(2, .bool false)] [] (by (simp only [go_sem, hb1, hb7, hb12, hb15, hb18, hb21, hb24, hb38, hb39]) <;> (repeat' with_reducible apply And.intro) <;> first | assumption | rfl | omega | (unfold maxLen; omega)) ?_
                          refine athen_n ?_
                          refine AW.ret ?_
                          refine athen_r ?_
                          refine ablock_r ?_
                          refine athen_r ?_
                          obtain rfl := Option.some.inj h
                          rw [← hd4 _ rfl] at ho3
                          have h := ho3
                          try simp only at h
                          refine athen_r ?_
                          refine ablock_r ?_
                          refine athen_r ?_
                          obtain rfl := Option.some.inj h
                          exact ⟨rfl, [], [], [], rfl, (by (simp only [go_sem, hb1, hb7, hb12, hb15, hb18, hb21, hb24, hb38, hb39]) <;> (repeat' with_reducible apply And.intro) <;> first | assumption | rfl | omega | (unfold maxLen; omega))⟩
                        · rw [if_neg (Bool.eq_false_iff.1 hb39)] at h
                          refine AO.weaken (s' := ⟨fr [(0, .sl Y1 h0), (3, .int .i64 st1), (4, .bp 4 0), (55, .bool false)], hpGet [(4, .box 55 [.int .i64 (h0.getD st1.toNat (0, 0, 0, 0, 0, 0)).1, .int .i64 (h0.getD st1.toNat (0, 0, 0, 0, 0, 0)).2.1, .int .i64 (h0.getD st1.toNat (0, 0, 0, 0, 0, 0)).2.2.1, .int .i64 (h0.getD st1.toNat (0, 0, 0, 0, 0, 0)).2.2.2.1, .int .i64 (h0.getD st1.toNat (0, 0, 0, 0, 0, 0)).2.2.2.2.1, .int .i64 (h0.getD st1.toNat (0, 0, 0, 0, 0, 0)).2.2.2.2.2])], gt⟩) (Wk.to (by (simp only [go_sem, hb1, hb7, hb12, hb15, hb18, hb21, hb24, hb38, hb39]) <;> (repeat' with_reducible apply And.intro) <;> first | assumption | rfl | omega | (unfold maxLen; omega))) ?_
                          refine AO.segF tab_ok 8 (by decide) [(0, .sl Y1 h0), (3, .int .i64 st1), (4, .bp 4 0), (55, .bool false), (59, .bool false), (62, .cv (undef)), (63, .cv (undef))] [(4, .box 55 [.int .i64 (h0.getD st1.toNat (0, 0, 0, 0, 0, 0)).1, .int .i64 (h0.getD st1.toNat (0, 0, 0, 0, 0, 0)).2.1, .int .i64 (h0.getD st1.toNat (0, 0, 0, 0, 0, 0)).2.2.1, .int .i64 (h0.getD st1.toNat (0, 0, 0, 0, 0, 0)).2.2.2.1, .int .i64 (h0.getD st1.toNat (0, 0, 0, 0, 0, 0)).2.2.2.2.1, .int .i64 (h0.getD st1.toNat (0, 0, 0, 0, 0, 0)).2.2.2.2.2])] (by (simp only [go_sem, hb1, hb7, hb12, hb15, hb18, hb21, hb24, hb38, hb39]) <;> (repeat' with_reducible apply And.intro) <;> first | assumption | rfl | omega | (unfold maxLen; omega)) ?_
                          refine AO.allF tab_ok (by decide) [(0, .sl Y1 h0), (3, .int .i64 st1), (4, .bp 4 0), (68, .bool false)] [(4, .box 55 [.int .i64 (h0.getD st1.toNat (0, 0, 0, 0, 0, 0)).1, .int .i64 (h0.getD st1.toNat (0, 0, 0, 0, 0, 0)).2.1, .int .i64 (h0.getD st1.toNat (0, 0, 0, 0, 0, 0)).2.2.1, .int .i64 (h0.getD st1.toNat (0, 0, 0, 0, 0, 0)).2.2.2.1, .int .i64 (h0.getD st1.toNat (0, 0, 0, 0, 0, 0)).2.2.2.2.1, .int .i64 (h0.getD st1.toNat (0, 0, 0, 0, 0, 0)).2.2.2.2.2])] (by (simp only [go_sem, hb1, hb7, hb12, hb15, hb18, hb21, hb24, hb38, hb39]) <;> (repeat' with_reducible apply And.intro) <;> first | assumption | rfl | omega | (unfold maxLen; omega)) ?_
                          refine athen_n ?_
                          refine AW.cond (b := false) rfl (fun hb41 => by cases hb41) (fun _ => ?_)
                          refine AW.skip ?_
                          refine athen_n ?_
                          refine AW.seq ?_
                          refine AW.ops ?_
                          refine AO.allF tab_ok (by decide) [(0, .sl Y1 h0), (3, .int .i64 st1), (4, .bp 4 0), (5, .int .i64 0)] [(4, .box 55 [.int .i64 (h0.getD st1.toNat (0, 0, 0, 0, 0, 0)).1, .int .i64 (h0.getD st1.toNat (0, 0, 0, 0, 0, 0)).2.1, .int .i64 (h0.getD st1.toNat (0, 0, 0, 0, 0, 0)).2.2.1, .int .i64 (h0.getD st1.toNat (0, 0, 0, 0, 0, 0)).2.2.2.1, .int .i64 (h0.getD st1.toNat (0, 0, 0, 0, 0, 0)).2.2.2.2.1, .int .i64 (h0.getD st1.toNat (0, 0, 0, 0, 0, 0)).2.2.2.2.2])] (by (simp only [go_sem, hb1, hb7, hb12, hb15, hb18, hb21, hb24, hb38, hb39]) <;> (repeat' with_reducible apply And.intro) <;> first | assumption | rfl | omega | (unfold maxLen; omega)) ?_
                          refine athen_n ?_
                          exact AW.weaken (Wk.le [] [] [] rfl (by (simp only [go_sem, hb1, hb7, hb12, hb15, hb18, hb21, hb24, hb38, hb39]) <;> (repeat' with_reducible apply And.intro) <;> first | assumption | rfl | omega | (unfold maxLen; omega)) (by (simp only [go_sem, hb1, hb7, hb12, hb15, hb18, hb21, hb24, hb38, hb39]) <;> (repeat' with_reducible apply And.intro) <;> first | assumption | rfl | omega | (unfold maxLen; omega))) (hk_linealref02_Valid_k3 () h)
                      · rw [if_neg (Bool.eq_false_iff.1 hb38)] at h
                        refine AO.weaken (s' := ⟨fr [(0, .sl Y1 h0), (3, .int .i64 st1), (4, .bp 4 0), (50, .bool false)], hpGet [(4, .box 55 [.int .i64 (h0.getD st1.toNat (0, 0, 0, 0, 0, 0)).1, .int .i64 (h0.getD st1.toNat (0, 0, 0, 0, 0, 0)).2.1, .int .i64 (h0.getD st1.toNat (0, 0, 0, 0, 0, 0)).2.2.1, .int .i64 (h0.getD st1.toNat (0, 0, 0, 0, 0, 0)).2.2.2.1, .int .i64 (h0.getD st1.toNat (0, 0, 0, 0, 0, 0)).2.2.2.2.1, .int .i64 (h0.getD st1.toNat (0, 0, 0, 0, 0, 0)).2.2.2.2.2])], gt⟩) (Wk.to (by (simp only [go_sem, hb1, hb7, hb12, hb15, hb18, hb21, hb24, hb38]) <;> (repeat' with_reducible apply And.intro) <;> first | assumption | rfl | omega | (unfold maxLen; omega))) ?_
                        obtain ⟨c42, h⟩ := ck_some.1 h
                        refine AO.segF tab_ok 14 (by decide) [(0, .sl Y1 h0), (3, .int .i64 st1), (4, .bp 4 0), (55, .bool false), (59, .bool true), (62, .int .i64 ((h0.getD st1.toNat (0, 0, 0, 0, 0, 0)).2.2.2.2.1 + 1)), (64, .int .i64 (h0.getD st1.toNat (0, 0, 0, 0, 0, 0)).2.2.2.2.2)] [(4, .box 55 [.int .i64 (h0.getD st1.toNat (0, 0, 0, 0, 0, 0)).1, .int .i64 (h0.getD st1.toNat (0, 0, 0, 0, 0, 0)).2.1, .int .i64 (h0.getD st1.toNat (0, 0, 0, 0, 0, 0)).2.2.1, .int .i64 (h0.getD st1.toNat (0, 0, 0, 0, 0, 0)).2.2.2.1, .int .i64 (h0.getD st1.toNat (0, 0, 0, 0, 0, 0)).2.2.2.2.1, .int .i64 (h0.getD st1.toNat (0, 0, 0, 0, 0, 0)).2.2.2.2.2])] (by (simp only [go_sem, hb1, hb7, hb12, hb15, hb18, hb21, hb24, hb38]) <;> (repeat' with_reducible apply And.intro) <;> first | assumption | rfl | omega | (unfold maxLen; omega)) ?_
                        obtain ⟨v0_6, hv43, h⟩ := Option.bind_eq_some_iff.1 h
                        refine AO.call tab_ok (by decide) rfl rfl rfl (fun _ h => ⟨fun _ => h, fun hn => absurd rfl hn⟩) [] [] (hc_linealref02_within ((h0.getD st1.toNat (0, 0, 0, 0, 0, 0)).2.2.2.2.1 + 1) (h0.getD st1.toNat (0, 0, 0, 0, 0, 0)).2.2.2.2.2 100 hv43) rfl (by (simp only [go_sem, hb1, hb7, hb12, hb15, hb18, hb21, hb24, hb38]) <;> (repeat' with_reducible apply And.intro) <;> first | assumption | rfl | omega | (unfold maxLen; omega)) (by (simp only [go_sem, hb1, hb7, hb12, hb15, hb18, hb21, hb24, hb38]) <;> (repeat' with_reducible apply And.intro) <;> first | assumption | rfl | omega | (unfold maxLen; omega)) [(0, .sl Y1 h0), (3, .int .i64 st1), (4, .bp 4 0), (55, .bool false), (59, .bool true), (65, .bool v0_6)] [(4, .box 55 [.int .i64 (h0.getD st1.toNat (0, 0, 0, 0, 0, 0)).1, .int .i64 (h0.getD st1.toNat (0, 0, 0, 0, 0, 0)).2.1, .int .i64 (h0.getD st1.toNat (0, 0, 0, 0, 0, 0)).2.2.1, .int .i64 (h0.getD st1.toNat (0, 0, 0, 0, 0, 0)).2.2.2.1, .int .i64 (h0.getD st1.toNat (0, 0, 0, 0, 0, 0)).2.2.2.2.1, .int .i64 (h0.getD st1.toNat (0, 0, 0, 0, 0, 0)).2.2.2.2.2])] (by (simp only [go_sem, hb1, hb7, hb12, hb15, hb18, hb21, hb24, hb38]) <;> (repeat' with_reducible apply And.intro) <;> first | assumption | rfl | omega | (unfold maxLen; omega)) ?_
                        refine AO.allF tab_ok (by decide) [(0, .sl Y1 h0), (3, .int .i64 st1), (4, .bp 4 0), (68, .bool (!v0_6))] [(4, .box 55 [.int .i64 (h0.getD st1.toNat (0, 0, 0, 0, 0, 0)).1, .int .i64 (h0.getD st1.toNat (0, 0, 0, 0, 0, 0)).2.1, .int .i64 (h0.getD st1.toNat (0, 0, 0, 0, 0, 0)).2.2.1, .int .i64 (h0.getD st1.toNat (0, 0, 0, 0, 0, 0)).2.2.2.1, .int .i64 (h0.getD st1.toNat (0, 0, 0, 0, 0, 0)).2.2.2.2.1, .int .i64 (h0.getD st1.toNat (0, 0, 0, 0, 0, 0)).2.2.2.2.2])] (by (simp only [go_sem, hb1, hb7, hb12, hb15, hb18, hb21, hb24, hb38]) <;> (repeat' with_reducible apply And.intro) <;> first | assumption | rfl | omega | (unfold maxLen; omega)) ?_
                        refine athen_n ?_
                        refine AW.cond (b := (!v0_6)) rfl (fun hb44 => ?_) (fun hb44 => ?_)
                        · rw [if_pos hb44] at h
                          refine AW.seq ?_
                          refine AW.ops ?_
                          refine AO.allF tab_ok (by decide) [(2, .bool false)] [] (by (simp only [go_sem, hb1, hb7, hb12, hb15, hb18, hb21, hb24, hb38, hb44]) <;> (repeat' with_reducible apply And.intro) <;> first | assumption | rfl | omega | (unfold maxLen; omega)) ?_
                          refine athen_n ?_
                          refine AW.ret ?_
                          refine athen_r ?_
                          refine ablock_r ?_
                          refine athen_r ?_
                          obtain rfl := Option.some.inj h
                          rw [← hd4 _ rfl] at ho3
                          have h := ho3
                          try simp only at h
                          refine athen_r ?_
                          refine ablock_r ?_
                          refine athen_r ?_
                          obtain rfl := Option.some.inj h
                          exact ⟨rfl, [], [], [], rfl, (by (simp only [go_sem, hb1, hb7, hb12, hb15, hb18, hb21, hb24, hb38, hb44]) <;> (repeat' with_reducible apply And.intro) <;> first | assumption | rfl | omega | (unfold maxLen; omega))⟩
                        · rw [if_neg (Bool.eq_false_iff.1 hb44)] at h
                          refine AW.skip ?_
                          refine athen_n ?_
                          refine AW.seq ?_
                          refine AW.ops ?_
                          refine AO.allF tab_ok (by decide) [(0, .sl Y1 h0), (3, .int .i64 st1), (4, .bp 4 0), (5, .int .i64 0)] [(4, .box 55 [.int .i64 (h0.getD st1.toNat (0, 0, 0, 0, 0, 0)).1, .int .i64 (h0.getD st1.toNat (0, 0, 0, 0, 0, 0)).2.1, .int .i64 (h0.getD st1.toNat (0, 0, 0, 0, 0, 0)).2.2.1, .int .i64 (h0.getD st1.toNat (0, 0, 0, 0, 0, 0)).2.2.2.1, .int .i64 (h0.getD st1.toNat (0, 0, 0, 0, 0, 0)).2.2.2.2.1, .int .i64 (h0.getD st1.toNat (0, 0, 0, 0, 0, 0)).2.2.2.2.2])] (by (simp only [go_sem, hb1, hb7, hb12, hb15, hb18, hb21, hb24, hb38, hb44]) <;> (repeat' with_reducible apply And.intro) <;> first | assumption | rfl | omega | (unfold maxLen; omega)) ?_
                          refine athen_n ?_
                          exact AW.weaken (Wk.le [] [] [] rfl (by (simp only [go_sem, hb1, hb7, hb12, hb15, hb18, hb21, hb24, hb38, hb44]) <;> (repeat' with_reducible apply And.intro) <;> first | assumption | rfl | omega | (unfold maxLen; omega)) (by (simp only [go_sem, hb1, hb7, hb12, hb15, hb18, hb21, hb24, hb38, hb44]) <;> (repeat' with_reducible apply And.intro) <;> first | assumption | rfl | omega | (unfold maxLen; omega))) (hk_linealref02_Valid_k3 () h)
      · rw [if_neg (Bool.eq_false_iff.1 hb7)] at h
        refine AW.exit ?_
        refine athen_e ?_
        obtain rfl := Option.some.inj h
        rw [← hd4 _ rfl] at ho3
        have h := ho3
        try simp only at h
        refine athen_e ?_
        refine ablock_s ?_
        refine athen_n ?_
        exact AW.weaken (Wk.le [] [] [] rfl (by (simp only [go_sem, hb1, hb7]) <;> (repeat' with_reducible apply And.intro) <;> first | assumption | rfl | omega | (unfold maxLen; omega)) (by (simp only [go_sem, hb1, hb7]) <;> (repeat' with_reducible apply And.intro) <;> first | assumption | rfl | omega | (unfold maxLen; omega))) (hk_linealref02_Valid_k1 () h)

end Go.Proofs.Ytdkdkpenmgkdcaa
