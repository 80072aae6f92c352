/-
  Made by wip/tool/dc.py out of the print of the program: contracts.
-/
import Derived.Test.YtcijihofjcfpoabWp
import Derived.Test.YtcijihofjcfpoabTb3
import Derived.Test.YtcijihofjcfpoabXjc2
import Derived.Test.YtcijihofjcfpoabXjc3
namespace Go.Proofs.Ytcijihofjcfpoab
open Go.RowKit

set_option linter.unusedSimpArgs false
set_option linter.unusedVariables false
set_option linter.constructorNameAsVariable false

set_option maxRecDepth 100000 in
set_option maxHeartbeats 2000000 in
theorem hc_lineallaw03_valid (l : Int × (List (Int × Int))) (words : List (List Int)) {r : Bool} (h : lineallaw03_valid l words = some r) : HC Try.prog 54 [] [.agg [.int .i64 l.1, .sl (.pair (.int .i64) (.int .i64)) l.2], .sl (.sl (.int .i64)) words] [] (.bool r) := by
  unfold lineallaw03_valid at h
  refine HC.of_body tab_ok (res := [.tmp 4]) Try.func54 rfl (by kernel_rfl) rfl (nt := 26) rfl (by decide) (by simp) ?_
  refine AW.seq ?_
  refine AW.ops ?_
  refine AO.allF tab_ok (by decide) [(1, .sl (.sl (.int .i64)) words), (2, .bp 2 0)] [(2, .box 24 [.int .i64 l.1, .sl (.pair (.int .i64) (.int .i64)) l.2])] (by (simp only [go_sem]) <;> (repeat' with_reducible apply And.intro) <;> first | assumption | rfl | omega | (unfold maxLen; omega)) ?_
  refine athen_n ?_
  refine AW.seq ?_
  refine AW.seq ?_
  refine AW.ops ?_
  refine AO.segF tab_ok 2 (by decide) [(1, .sl (.sl (.int .i64)) words), (2, .bp 2 0), (7, .agg [.int .i64 l.1, .sl (.pair (.int .i64) (.int .i64)) l.2]), (8, .sl (.sl (.int .i64)) words)] [(2, .box 24 [.int .i64 l.1, .sl (.pair (.int .i64) (.int .i64)) l.2])] (by (simp only [go_sem]) <;> (repeat' with_reducible apply And.intro) <;> first | assumption | rfl | omega | (unfold maxLen; omega)) ?_
  obtain ⟨v0, hv1, h⟩ := Option.bind_eq_some_iff.1 h
  refine AO.call tab_ok (by decide) rfl rfl rfl (fun _ h => h) [] [] (hc_lineallaw03_Long l words hv1) rfl (by (simp only [go_sem]) <;> (repeat' with_reducible apply And.intro) <;> first | assumption | rfl | omega | (unfold maxLen; omega)) (by (simp only [go_sem]) <;> (repeat' with_reducible apply And.intro) <;> first | assumption | rfl | omega | (unfold maxLen; omega)) [(1, .sl (.sl (.int .i64)) words), (2, .bp 2 0), (9, .bool v0)] [(2, .box 24 [.int .i64 l.1, .sl (.pair (.int .i64) (.int .i64)) l.2])] (by (simp only [go_sem]) <;> (repeat' with_reducible apply And.intro) <;> first | assumption | rfl | omega | (unfold maxLen; omega)) ?_
  refine AO.segF tab_ok 1 (by decide) [(1, .sl (.sl (.int .i64)) words), (2, .bp 2 0), (10, .bool v0)] [(2, .box 24 [.int .i64 l.1, .sl (.pair (.int .i64) (.int .i64)) l.2])] (by (simp only [go_sem]) <;> (repeat' with_reducible apply And.intro) <;> first | assumption | rfl | omega | (unfold maxLen; omega)) ?_
  rcases Bool.eq_false_or_eq_true v0 with hb2 | hb2
  · rw [if_pos hb2] at h
    refine AO.weaken (s' := ⟨fr [(1, .sl (.sl (.int .i64)) words), (2, .bp 2 0), (10, .bool true)], hpGet [(2, .box 24 [.int .i64 l.1, .sl (.pair (.int .i64) (.int .i64)) l.2])], gt⟩) (Wk.to (by (simp only [go_sem, hb2]) <;> (repeat' with_reducible apply And.intro) <;> first | assumption | rfl | omega | (unfold maxLen; omega))) ?_
    refine AO.allF tab_ok (by decide) [(1, .sl (.sl (.int .i64)) words), (2, .bp 2 0), (14, .bool true)] [(2, .box 24 [.int .i64 l.1, .sl (.pair (.int .i64) (.int .i64)) l.2])] (by (simp only [go_sem, hb2]) <;> (repeat' with_reducible apply And.intro) <;> first | assumption | rfl | omega | (unfold maxLen; omega)) ?_
    refine athen_n ?_
    refine AW.cond (b := true) rfl (fun _ => ?_) (fun hb3 => by cases hb3)
    refine AW.seq ?_
    refine AW.ops ?_
    refine AO.allF tab_ok (by decide) [(4, .bool false)] [] (by (simp only [go_sem, hb2]) <;> (repeat' with_reducible apply And.intro) <;> first | assumption | rfl | omega | (unfold maxLen; omega)) ?_
    refine athen_n ?_
    refine AW.ret ?_
    refine athen_r ?_
    obtain rfl := Option.some.inj h
    exact ⟨rfl, [], [], [], rfl, (by (simp only [go_sem, hb2]) <;> (repeat' with_reducible apply And.intro) <;> first | assumption | rfl | omega | (unfold maxLen; omega))⟩
  · rw [if_neg (Bool.eq_false_iff.1 hb2)] at h
    refine AO.weaken (s' := ⟨fr [(1, .sl (.sl (.int .i64)) words), (2, .bp 2 0), (10, .bool false)], hpGet [(2, .box 24 [.int .i64 l.1, .sl (.pair (.int .i64) (.int .i64)) l.2])], gt⟩) (Wk.to (by (simp only [go_sem, hb2]) <;> (repeat' with_reducible apply And.intro) <;> first | assumption | rfl | omega | (unfold maxLen; omega))) ?_
    refine AO.segF tab_ok 1 (by decide) [(1, .sl (.sl (.int .i64)) words), (2, .bp 2 0), (10, .bool false), (11, .agg [.int .i64 l.1, .sl (.pair (.int .i64) (.int .i64)) l.2])] [(2, .box 24 [.int .i64 l.1, .sl (.pair (.int .i64) (.int .i64)) l.2])] (by (simp only [go_sem, hb2]) <;> (repeat' with_reducible apply And.intro) <;> first | assumption | rfl | omega | (unfold maxLen; omega)) ?_
    obtain ⟨v0_2, hv4, h⟩ := Option.bind_eq_some_iff.1 h
    refine AO.call tab_ok (by decide) rfl rfl rfl (fun _ h => ⟨fun _ => h, fun hn => absurd rfl hn⟩) [] [] (hc_linealref03_Valid l hv4) rfl (by (simp only [go_sem, hb2]) <;> (repeat' with_reducible apply And.intro) <;> first | assumption | rfl | omega | (unfold maxLen; omega)) (by (simp only [go_sem, hb2]) <;> (repeat' with_reducible apply And.intro) <;> first | assumption | rfl | omega | (unfold maxLen; omega)) [(1, .sl (.sl (.int .i64)) words), (2, .bp 2 0), (10, .bool false), (12, .bool v0_2)] [(2, .box 24 [.int .i64 l.1, .sl (.pair (.int .i64) (.int .i64)) l.2])] (by (simp only [go_sem, hb2]) <;> (repeat' with_reducible apply And.intro) <;> first | assumption | rfl | omega | (unfold maxLen; omega)) ?_
    refine AO.allF tab_ok (by decide) [(1, .sl (.sl (.int .i64)) words), (2, .bp 2 0), (14, .bool (!v0_2))] [(2, .box 24 [.int .i64 l.1, .sl (.pair (.int .i64) (.int .i64)) l.2])] (by (simp only [go_sem, hb2]) <;> (repeat' with_reducible apply And.intro) <;> first | assumption | rfl | omega | (unfold maxLen; omega)) ?_
    refine athen_n ?_
    refine AW.cond (b := (!v0_2)) rfl (fun hb5 => ?_) (fun hb5 => ?_)
    · rw [if_pos hb5] at h
      refine AW.seq ?_
      refine AW.ops ?_
      refine AO.allF tab_ok (by decide) [(4, .bool false)] [] (by (simp only [go_sem, hb2, hb5]) <;> (repeat' with_reducible apply And.intro) <;> first | assumption | rfl | omega | (unfold maxLen; omega)) ?_
      refine athen_n ?_
      refine AW.ret ?_
      refine athen_r ?_
      obtain rfl := Option.some.inj h
      exact ⟨rfl, [], [], [], rfl, (by (simp only [go_sem, hb2, hb5]) <;> (repeat' with_reducible apply And.intro) <;> first | assumption | rfl | omega | (unfold maxLen; omega))⟩
    · rw [if_neg (Bool.eq_false_iff.1 hb5)] at h
      refine AW.skip ?_
      refine athen_n ?_
      refine AW.have1 (fun _ : Unit => lineallaw03_valid_k1 = some r) (fun _ => ⟨fr [], hpGet [], gt⟩) (fun _ h => ?_) (fun hk_lineallaw03_valid_k1 => ?_)
      · unfold lineallaw03_valid_k1 at h
        refine AW.seq ?_
        refine AW.ops ?_
        refine AO.allF tab_ok (by decide) [(4, .bool true)] [] (by (simp only [go_sem, hb2, hb5]) <;> (repeat' with_reducible apply And.intro) <;> first | assumption | rfl | omega | (unfold maxLen; omega)) ?_
        refine athen_n ?_
        refine AW.ret ?_
        obtain rfl := Option.some.inj h
        exact ⟨rfl, [], [], [], rfl, (by (simp only [go_sem, hb2, hb5]) <;> (repeat' with_reducible apply And.intro) <;> first | assumption | rfl | omega | (unfold maxLen; omega))⟩
      · refine AW.seq ?_
        refine AW.seq ?_
        refine AW.ops ?_
        refine AO.allF tab_ok (by decide) [(2, .bp 2 0), (15, .sl (.sl (.int .i64)) words), (16, .int .i64 (words.length : Int)), (17, .int .i64 0)] [(2, .box 24 [.int .i64 l.1, .sl (.pair (.int .i64) (.int .i64)) l.2])] (by (simp only [go_sem, hb2, hb5]) <;> (repeat' with_reducible apply And.intro) <;> first | assumption | rfl | omega | (unfold maxLen; omega)) ?_
        refine athen_n ?_
        refine AW.block ?_
        obtain ⟨rv10, hw6, ho7⟩ := Option.bind_eq_some_iff.1 h
        refine AW.loopO (lineallaw03_valid_b1 l words) (fun st1 => ⟨fr [(2, .bp 2 0), (15, .sl (.sl (.int .i64)) words), (16, .int .i64 (words.length : Int)), (17, .int .i64 st1)], hpGet [(2, .box 24 [.int .i64 l.1, .sl (.pair (.int .i64) (.int .i64)) l.2])], gt⟩) 0 hw6 (Wk.le [] [] [] rfl (by (simp only [go_sem, hb2, hb5]) <;> (repeat' with_reducible apply And.intro) <;> first | assumption | rfl | omega | (unfold maxLen; omega)) (by (simp only [go_sem, hb2, hb5]) <;> (repeat' with_reducible apply And.intro) <;> first | assumption | rfl | omega | (unfold maxLen; omega))) ?_
        intro st1 x9 h hd8
        unfold lineallaw03_valid_b1 at h
        refine AW.seq ?_
        refine AW.ops ?_
        refine AO.allF tab_ok (by decide) [(2, .bp 2 0), (15, .sl (.sl (.int .i64)) words), (16, .int .i64 (words.length : Int)), (17, .int .i64 st1), (18, .bool (decide (st1 < (words.length : Int))))] [(2, .box 24 [.int .i64 l.1, .sl (.pair (.int .i64) (.int .i64)) l.2])] (by (simp only [go_sem, hb2, hb5]) <;> (repeat' with_reducible apply And.intro) <;> first | assumption | rfl | omega | (unfold maxLen; omega)) ?_
        refine athen_n ?_
        refine AW.seq ?_
        refine AW.cond (b := (decide (st1 < (words.length : Int)))) rfl (fun hb11 => ?_) (fun hb11 => ?_)
        · rw [if_pos hb11] at h
          refine AW.skip ?_
          refine athen_n ?_
          refine AW.seq ?_
          refine AW.block ?_
          refine AW.seq ?_
          refine AW.ops ?_
          obtain ⟨c12, h⟩ := ck_some.1 h
          obtain ⟨c13, h⟩ := ck_some.1 h
          refine AO.allF tab_ok (by decide) [(2, .bp 2 0), (6, .sl (.int .i64) (words.getD st1.toNat [])), (15, .sl (.sl (.int .i64)) words), (16, .int .i64 (words.length : Int)), (17, .int .i64 st1)] [(2, .box 24 [.int .i64 l.1, .sl (.pair (.int .i64) (.int .i64)) l.2])] (by (simp only [go_sem, hb2, hb5, hb11]) <;> (repeat' with_reducible apply And.intro) <;> first | assumption | rfl | omega | (unfold maxLen; omega)) ?_
          refine athen_n ?_
          refine AW.seq ?_
          refine AW.ops ?_
          refine AO.segF tab_ok 2 (by decide) [(2, .bp 2 0), (15, .sl (.sl (.int .i64)) words), (16, .int .i64 (words.length : Int)), (17, .int .i64 st1), (21, .agg [.int .i64 l.1, .sl (.pair (.int .i64) (.int .i64)) l.2]), (22, .sl (.int .i64) (words.getD st1.toNat []))] [(2, .box 24 [.int .i64 l.1, .sl (.pair (.int .i64) (.int .i64)) l.2])] (by (simp only [go_sem, hb2, hb5, hb11]) <;> (repeat' with_reducible apply And.intro) <;> first | assumption | rfl | omega | (unfold maxLen; omega)) ?_
          obtain ⟨v0_3, hv14, h⟩ := Option.bind_eq_some_iff.1 h
          refine AO.call tab_ok (by decide) rfl rfl rfl (fun _ h => h) [] [] (hc_linealref03_IsWord l (words.getD st1.toNat []) hv14) rfl (by (simp only [go_sem, hb2, hb5, hb11]) <;> (repeat' with_reducible apply And.intro) <;> first | assumption | rfl | omega | (unfold maxLen; omega)) (by (simp only [go_sem, hb2, hb5, hb11]) <;> (repeat' with_reducible apply And.intro) <;> first | assumption | rfl | omega | (unfold maxLen; omega)) [(2, .bp 2 0), (15, .sl (.sl (.int .i64)) words), (16, .int .i64 (words.length : Int)), (17, .int .i64 st1), (23, .bool v0_3)] [(2, .box 24 [.int .i64 l.1, .sl (.pair (.int .i64) (.int .i64)) l.2])] (by (simp only [go_sem, hb2, hb5, hb11]) <;> (repeat' with_reducible apply And.intro) <;> first | assumption | rfl | omega | (unfold maxLen; omega)) ?_
          refine AO.allF tab_ok (by decide) [(2, .bp 2 0), (15, .sl (.sl (.int .i64)) words), (16, .int .i64 (words.length : Int)), (17, .int .i64 st1), (24, .bool (!v0_3))] [(2, .box 24 [.int .i64 l.1, .sl (.pair (.int .i64) (.int .i64)) l.2])] (by (simp only [go_sem, hb2, hb5, hb11]) <;> (repeat' with_reducible apply And.intro) <;> first | assumption | rfl | omega | (unfold maxLen; omega)) ?_
          refine athen_n ?_
          refine AW.cond (b := (!v0_3)) rfl (fun hb15 => ?_) (fun hb15 => ?_)
          · rw [if_pos hb15] at h
            refine AW.seq ?_
            refine AW.ops ?_
            refine AO.allF tab_ok (by decide) [(4, .bool false)] [] (by (simp only [go_sem, hb2, hb5, hb11, hb15]) <;> (repeat' with_reducible apply And.intro) <;> first | assumption | rfl | omega | (unfold maxLen; omega)) ?_
            refine athen_n ?_
            refine AW.ret ?_
            refine ablock_r ?_
            refine athen_r ?_
            obtain rfl := Option.some.inj h
            rw [← hd8 _ rfl] at ho7
            have h := ho7
            try simp only at h
            refine athen_r ?_
            refine ablock_r ?_
            refine athen_r ?_
            obtain rfl := Option.some.inj h
            exact ⟨rfl, [], [], [], rfl, (by (simp only [go_sem, hb2, hb5, hb11, hb15]) <;> (repeat' with_reducible apply And.intro) <;> first | assumption | rfl | omega | (unfold maxLen; omega))⟩
          · rw [if_neg (Bool.eq_false_iff.1 hb15)] at h
            refine AW.skip ?_
            refine ablock_n ?_
            refine athen_n ?_
            refine AW.ops ?_
            obtain ⟨c16, h⟩ := ck_some.1 h
            refine AO.allF tab_ok (by decide) [(2, .bp 2 0), (15, .sl (.sl (.int .i64)) words), (16, .int .i64 (words.length : Int)), (17, .int .i64 (st1 + 1))] [(2, .box 24 [.int .i64 l.1, .sl (.pair (.int .i64) (.int .i64)) l.2])] (by (simp only [go_sem, hb2, hb5, hb11, hb15]) <;> (repeat' with_reducible apply And.intro) <;> first | assumption | rfl | omega | (unfold maxLen; omega)) ?_
            obtain rfl := Option.some.inj h
            exact ⟨_, rfl, Wk.le [] [] [] rfl (by (simp only [go_sem, hb2, hb5, hb11, hb15]) <;> (repeat' with_reducible apply And.intro) <;> first | assumption | rfl | omega | (unfold maxLen; omega)) (by (simp only [go_sem, hb2, hb5, hb11, hb15]) <;> (repeat' with_reducible apply And.intro) <;> first | assumption | rfl | omega | (unfold maxLen; omega))⟩
        · rw [if_neg (Bool.eq_false_iff.1 hb11)] at h
          refine AW.exit ?_
          refine athen_e ?_
          obtain rfl := Option.some.inj h
          rw [← hd8 _ rfl] at ho7
          have h := ho7
          try simp only at h
          refine athen_e ?_
          refine ablock_s ?_
          refine athen_n ?_
          exact AW.weaken (Wk.le [] [] [] rfl (by (simp only [go_sem, hb2, hb5, hb11]) <;> (repeat' with_reducible apply And.intro) <;> first | assumption | rfl | omega | (unfold maxLen; omega)) (by (simp only [go_sem, hb2, hb5, hb11]) <;> (repeat' with_reducible apply And.intro) <;> first | assumption | rfl | omega | (unfold maxLen; omega))) (hk_lineallaw03_valid_k1 () h)

end Go.Proofs.Ytcijihofjcfpoab
