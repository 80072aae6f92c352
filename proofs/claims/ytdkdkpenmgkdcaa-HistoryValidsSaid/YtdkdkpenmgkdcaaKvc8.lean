/-
  Made by wip/tool/dc.py out of the print of the program: contracts.
-/
import Derived.Test.YtdkdkpenmgkdcaaHp
import Derived.Test.YtdkdkpenmgkdcaaTbh
import Derived.Test.YtdkdkpenmgkdcaaAvd
import Derived.Test.YtdkdkpenmgkdcaaKvc2
import Derived.Test.YtdkdkpenmgkdcaaKvc5
import Derived.Test.YtdkdkpenmgkdcaaKvc6
import Derived.Test.YtdkdkpenmgkdcaaKvc7
namespace Go.Proofs.Ytdkdkpenmgkdcaa
open Go.RowKit

set_option linter.unusedSimpArgs false
set_option linter.unusedVariables false
set_option linter.constructorNameAsVariable false

set_option maxRecDepth 100000 in
set_option maxHeartbeats 2000000 in
theorem hc_linealref02_isFor (specs : List (Int × Int × (List (List Int)) × (List (List Int)))) (h0 : List (Int × Int × Int × Int × Int × Int)) {r : Bool} (h : linealref02_isFor specs h0 = some r) : HC Try.prog 63 [] [.sl Y0 specs, .sl Y1 h0] [] (.bool r) := by
  unfold linealref02_isFor at h
  refine HC.of_body tab_ok (res := [.tmp 4]) Try.func63 rfl (by kernel_rfl) rfl (nt := 45) rfl (by decide) (by simp) ?_
  refine AW.seq ?_
  refine AW.ops ?_
  refine AO.allF tab_ok (by decide) [(0, .sl Y0 specs), (1, .sl Y1 h0)] [] (by (simp only [go_sem]) <;> (repeat' with_reducible apply And.intro) <;> first | assumption | rfl | omega | (unfold maxLen; omega)) ?_
  refine athen_n ?_
  refine AW.seq ?_
  refine AW.seq ?_
  refine AW.ops ?_
  refine AO.segF tab_ok 1 (by decide) [(0, .sl Y0 specs), (1, .sl Y1 h0), (6, .sl Y0 specs)] [] (by (simp only [go_sem]) <;> (repeat' with_reducible apply And.intro) <;> first | assumption | rfl | omega | (unfold maxLen; omega)) ?_
  obtain ⟨v0, hv1, h⟩ := Option.bind_eq_some_iff.1 h
  refine AO.call tab_ok (by decide) rfl rfl rfl (fun _ h => h) [] [] (hc_linealref02_areSpecs specs hv1) rfl (by (simp only [go_sem]) <;> (repeat' with_reducible apply And.intro) <;> first | assumption | rfl | omega | (unfold maxLen; omega)) (by (simp only [go_sem]) <;> (repeat' with_reducible apply And.intro) <;> first | assumption | rfl | omega | (unfold maxLen; omega)) [(0, .sl Y0 specs), (1, .sl Y1 h0), (7, .bool v0)] [] (by (simp only [go_sem]) <;> (repeat' with_reducible apply And.intro) <;> first | assumption | rfl | omega | (unfold maxLen; omega)) ?_
  refine AO.segF tab_ok 2 (by decide) [(0, .sl Y0 specs), (1, .sl Y1 h0), (9, .bool (!v0))] [] (by (simp only [go_sem]) <;> (repeat' with_reducible apply And.intro) <;> first | assumption | rfl | omega | (unfold maxLen; omega)) ?_
  rcases Bool.eq_false_or_eq_true (!v0) with hb2 | hb2
  · rw [if_pos hb2] at h
    refine AO.weaken (s' := ⟨fr [(0, .sl Y0 specs), (1, .sl Y1 h0), (9, .bool true)], hpGet [], gt⟩) (Wk.to (by (simp only [go_sem, hb2]) <;> (repeat' with_reducible apply And.intro) <;> first | assumption | rfl | omega | (unfold maxLen; omega))) ?_
    refine AO.allF tab_ok (by decide) [(0, .sl Y0 specs), (1, .sl Y1 h0), (13, .bool true)] [] (by (simp only [go_sem, hb2]) <;> (repeat' with_reducible apply And.intro) <;> first | assumption | rfl | omega | (unfold maxLen; omega)) ?_
    refine athen_n ?_
    refine AW.cond (b := true) rfl (fun _ => ?_) (fun hb3 => by cases hb3)
    refine AW.seq ?_
    refine AW.ops ?_
    refine AO.allF tab_ok (by decide) [(4, .bool false)] [] (by (simp only [go_sem, hb2]) <;> (repeat' with_reducible apply And.intro) <;> first | assumption | rfl | omega | (unfold maxLen; omega)) ?_
    refine athen_n ?_
    refine AW.ret ?_
    refine athen_r ?_
    obtain rfl := Option.some.inj h
    exact ⟨rfl, [], [], [], rfl, (by (simp only [go_sem, hb2]) <;> (repeat' with_reducible apply And.intro) <;> first | assumption | rfl | omega | (unfold maxLen; omega))⟩
  · rw [if_neg (Bool.eq_false_iff.1 hb2)] at h
    refine AO.weaken (s' := ⟨fr [(0, .sl Y0 specs), (1, .sl Y1 h0), (9, .bool false)], hpGet [], gt⟩) (Wk.to (by (simp only [go_sem, hb2]) <;> (repeat' with_reducible apply And.intro) <;> first | assumption | rfl | omega | (unfold maxLen; omega))) ?_
    refine AO.segF tab_ok 1 (by decide) [(0, .sl Y0 specs), (1, .sl Y1 h0), (9, .bool false), (10, .sl Y1 h0)] [] (by (simp only [go_sem, hb2]) <;> (repeat' with_reducible apply And.intro) <;> first | assumption | rfl | omega | (unfold maxLen; omega)) ?_
    obtain ⟨v0_2, hv4, h⟩ := Option.bind_eq_some_iff.1 h
    refine AO.call tab_ok (by decide) rfl rfl rfl (fun _ h => ⟨fun _ => h, fun hn => absurd rfl hn⟩) [] [] (hc_linealref02_Valid h0 hv4) rfl (by (simp only [go_sem, hb2]) <;> (repeat' with_reducible apply And.intro) <;> first | assumption | rfl | omega | (unfold maxLen; omega)) (by (simp only [go_sem, hb2]) <;> (repeat' with_reducible apply And.intro) <;> first | assumption | rfl | omega | (unfold maxLen; omega)) [(0, .sl Y0 specs), (1, .sl Y1 h0), (9, .bool false), (11, .bool v0_2)] [] (by (simp only [go_sem, hb2]) <;> (repeat' with_reducible apply And.intro) <;> first | assumption | rfl | omega | (unfold maxLen; omega)) ?_
    refine AO.allF tab_ok (by decide) [(0, .sl Y0 specs), (1, .sl Y1 h0), (13, .bool (!v0_2))] [] (by (simp only [go_sem, hb2]) <;> (repeat' with_reducible apply And.intro) <;> first | assumption | rfl | omega | (unfold maxLen; omega)) ?_
    refine athen_n ?_
    refine AW.cond (b := (!v0_2)) rfl (fun hb5 => ?_) (fun hb5 => ?_)
    · rw [if_pos hb5] at h
      refine AW.seq ?_
      refine AW.ops ?_
      refine AO.allF tab_ok (by decide) [(4, .bool false)] [] (by (simp only [go_sem, hb2, hb5]) <;> (repeat' with_reducible apply And.intro) <;> first | assumption | rfl | omega | (unfold maxLen; omega)) ?_
      refine athen_n ?_
      refine AW.ret ?_
      refine athen_r ?_
      obtain rfl := Option.some.inj h
      exact ⟨rfl, [], [], [], rfl, (by (simp only [go_sem, hb2, hb5]) <;> (repeat' with_reducible apply And.intro) <;> first | assumption | rfl | omega | (unfold maxLen; omega))⟩
    · rw [if_neg (Bool.eq_false_iff.1 hb5)] at h
      refine AW.skip ?_
      refine athen_n ?_
      refine AW.have1 (fun _ : Unit => linealref02_isFor_k1 = some r) (fun _ => ⟨fr [], hpGet [], gt⟩) (fun _ h => ?_) (fun hk_linealref02_isFor_k1 => ?_)
      · unfold linealref02_isFor_k1 at h
        refine AW.seq ?_
        refine AW.ops ?_
        refine AO.allF tab_ok (by decide) [(4, .bool true)] [] (by (simp only [go_sem, hb2, hb5]) <;> (repeat' with_reducible apply And.intro) <;> first | assumption | rfl | omega | (unfold maxLen; omega)) ?_
        refine athen_n ?_
        refine AW.ret ?_
        obtain rfl := Option.some.inj h
        exact ⟨rfl, [], [], [], rfl, (by (simp only [go_sem, hb2, hb5]) <;> (repeat' with_reducible apply And.intro) <;> first | assumption | rfl | omega | (unfold maxLen; omega))⟩
      · refine AW.seq ?_
        refine AW.seq ?_
        refine AW.ops ?_
        refine AO.allF tab_ok (by decide) [(0, .sl Y0 specs), (1, .sl Y1 h0), (5, .int .i64 0)] [] (by (simp only [go_sem, hb2, hb5]) <;> (repeat' with_reducible apply And.intro) <;> first | assumption | rfl | omega | (unfold maxLen; omega)) ?_
        refine athen_n ?_
        refine AW.block ?_
        obtain ⟨rv10, hw6, ho7⟩ := Option.bind_eq_some_iff.1 h
        refine AW.loopO (linealref02_isFor_b1 specs h0) (fun st1 => ⟨fr [(0, .sl Y0 specs), (1, .sl Y1 h0), (5, .int .i64 st1)], hpGet [], gt⟩) 0 hw6 (Wk.le [] [] [] rfl (by (simp only [go_sem, hb2, hb5]) <;> (repeat' with_reducible apply And.intro) <;> first | assumption | rfl | omega | (unfold maxLen; omega)) (by (simp only [go_sem, hb2, hb5]) <;> (repeat' with_reducible apply And.intro) <;> first | assumption | rfl | omega | (unfold maxLen; omega))) ?_
        intro st1 x9 h hd8
        unfold linealref02_isFor_b1 at h
        refine AW.seq ?_
        refine AW.seq ?_
        refine AW.ops ?_
        refine AO.allF tab_ok (by decide) [(0, .sl Y0 specs), (1, .sl Y1 h0), (5, .int .i64 st1), (17, .bool (decide (st1 < (h0.length : Int))))] [] (by (simp only [go_sem, hb2, hb5]) <;> (repeat' with_reducible apply And.intro) <;> first | assumption | rfl | omega | (unfold maxLen; omega)) ?_
        refine athen_n ?_
        refine AW.cond (b := (decide (st1 < (h0.length : Int)))) rfl (fun hb11 => ?_) (fun hb11 => ?_)
        · rw [if_pos hb11] at h
          refine AW.skip ?_
          refine athen_n ?_
          refine AW.seq ?_
          refine AW.block ?_
          refine AW.seq ?_
          refine AW.draw tab_ok mixed_ok [] [] (by decide) (lex_fast (by kernel_rfl)) ?_
          obtain ⟨c13, h⟩ := ck_some.1 h
          obtain ⟨c14, h⟩ := ck_some.1 h
          refine adops_cut 6 (fun K' hK12 => ?_)
          try dsimp only [List.drop_succ_cons, List.drop_zero, List.take_succ_cons, List.take_zero]
          simp only [go_sem, hb2, hb5, hb11]
          repeat (with_reducible refine And.intro (by first | assumption | rfl | omega | trivial | (unfold maxLen; omega)) ?_)
          refine hK12 _ ?_
          refine adops_cut 3 (fun K' hK15 => ?_)
          try dsimp only [List.drop_succ_cons, List.drop_zero, List.take_succ_cons, List.take_zero]
          simp only [go_sem, hb2, hb5, hb11]
          repeat (with_reducible refine And.intro (by first | assumption | rfl | omega | trivial | (unfold maxLen; omega)) ?_)
          refine hK15 _ ?_
          rcases Bool.eq_false_or_eq_true (decide ((specs.length : Int) ≤ (h0.getD st1.toNat (0, 0, 0, 0, 0, 0)).2.1)) with hb16 | hb16
          · rw [if_pos hb16] at h
            simp only [hb16]
            refine adops_cut 4 (fun K' hK17 => ?_)
            try dsimp only [List.drop_succ_cons, List.drop_zero, List.take_succ_cons, List.take_zero]
            simp only [go_sem, hb2, hb5, hb11, hb16]
            repeat (with_reducible refine And.intro (by first | assumption | rfl | omega | trivial | (unfold maxLen; omega)) ?_)
            refine hK17 _ ?_
            refine adops_cut 4 (fun K' hK18 => ?_)
            try dsimp only [List.drop_succ_cons, List.drop_zero, List.take_succ_cons, List.take_zero]
            simp only [go_sem, hb2, hb5, hb11, hb16]
            repeat (with_reducible refine And.intro (by first | assumption | rfl | omega | trivial | (unfold maxLen; omega)) ?_)
            refine hK18 _ ?_
            refine adops_cut 4 (fun K' hK19 => ?_)
            try dsimp only [List.drop_succ_cons, List.drop_zero, List.take_succ_cons, List.take_zero]
            simp only [go_sem, hb2, hb5, hb11, hb16]
            repeat (with_reducible refine And.intro (by first | assumption | rfl | omega | trivial | (unfold maxLen; omega)) ?_)
            refine hK19 _ ?_
            refine adops_cut 4 (fun K' hK20 => ?_)
            try dsimp only [List.drop_succ_cons, List.drop_zero, List.take_succ_cons, List.take_zero]
            simp only [go_sem, hb2, hb5, hb11, hb16]
            repeat (with_reducible refine And.intro (by first | assumption | rfl | omega | trivial | (unfold maxLen; omega)) ?_)
            refine hK20 _ ?_
            refine adops_nil ?_
            refine athen_n ?_
            refine AW.weaken (s' := ⟨fr [(0, .sl Y0 specs), (1, .sl Y1 h0), (5, .int .i64 st1), (44, .bool true)], hpGet [], gt⟩) (Wk.to (by (simp only [go_sem, hb2, hb5, hb11, hb16]) <;> (repeat' with_reducible apply And.intro) <;> first | assumption | rfl | omega | (unfold maxLen; omega))) ?_
            refine AW.cond (b := true) rfl (fun _ => ?_) (fun hb21 => by cases hb21)
            refine AW.seq ?_
            refine AW.ops ?_
            refine AO.allF tab_ok (by decide) [(4, .bool false)] [] (by (simp only [go_sem, hb2, hb5, hb11, hb16]) <;> (repeat' with_reducible apply And.intro) <;> first | assumption | rfl | omega | (unfold maxLen; omega)) ?_
            refine athen_n ?_
            refine AW.ret ?_
            refine ablock_r ?_
            refine athen_r ?_
            obtain rfl := Option.some.inj h
            rw [← hd8 _ rfl] at ho7
            have h := ho7
            try simp only at h
            refine athen_r ?_
            refine ablock_r ?_
            refine athen_r ?_
            obtain rfl := Option.some.inj h
            exact ⟨rfl, [], [], [], rfl, (by (simp only [go_sem, hb2, hb5, hb11, hb16]) <;> (repeat' with_reducible apply And.intro) <;> first | assumption | rfl | omega | (unfold maxLen; omega))⟩
          · rw [if_neg (Bool.eq_false_iff.1 hb16)] at h
            simp only [hb16]
            obtain ⟨c23, h⟩ := ck_some.1 h
            obtain ⟨c24, h⟩ := ck_some.1 h
            refine adops_cut 6 (fun K' hK22 => ?_)
            try dsimp only [List.drop_succ_cons, List.drop_zero, List.take_succ_cons, List.take_zero]
            simp only [go_sem, hb2, hb5, hb11, hb16]
            repeat (with_reducible refine And.intro (by first | assumption | rfl | omega | trivial | (unfold maxLen; omega)) ?_)
            refine hK22 _ ?_
            obtain ⟨c26, h⟩ := ck_some.1 h
            obtain ⟨c27, h⟩ := ck_some.1 h
            obtain ⟨c28, h⟩ := ck_some.1 h
            obtain ⟨c29, h⟩ := ck_some.1 h
            refine adops_cut 6 (fun K' hK25 => ?_)
            try dsimp only [List.drop_succ_cons, List.drop_zero, List.take_succ_cons, List.take_zero]
            simp only [go_sem, hb2, hb5, hb11, hb16]
            repeat (with_reducible refine And.intro (by first | assumption | rfl | omega | trivial | (unfold maxLen; omega)) ?_)
            refine hK25 _ ?_
            refine adops_cut 4 (fun K' hK30 => ?_)
            try dsimp only [List.drop_succ_cons, List.drop_zero, List.take_succ_cons, List.take_zero]
            simp only [go_sem, hb2, hb5, hb11, hb16]
            repeat (with_reducible refine And.intro (by first | assumption | rfl | omega | trivial | (unfold maxLen; omega)) ?_)
            refine hK30 _ ?_
            refine adops_nil ?_
            refine athen_n ?_
            refine AW.weaken (s' := ⟨fr [(0, .sl Y0 specs), (1, .sl Y1 h0), (5, .int .i64 st1), (44, .bool (decide ((specs.getD (h0.getD st1.toNat (0, 0, 0, 0, 0, 0)).2.1.toNat (0, 0, [], [])).2.1 ≤ (h0.getD st1.toNat (0, 0, 0, 0, 0, 0)).2.2.1)))], hpGet [], gt⟩) (Wk.to (by (simp only [go_sem, hb2, hb5, hb11, hb16]) <;> (repeat' with_reducible apply And.intro) <;> first | assumption | rfl | omega | (unfold maxLen; omega))) ?_
            refine AW.cond (b := (decide ((specs.getD (h0.getD st1.toNat (0, 0, 0, 0, 0, 0)).2.1.toNat (0, 0, [], [])).2.1 ≤ (h0.getD st1.toNat (0, 0, 0, 0, 0, 0)).2.2.1))) rfl (fun hb31 => ?_) (fun hb31 => ?_)
            · rw [if_pos hb31] at h
              refine AW.seq ?_
              refine AW.ops ?_
              refine AO.allF tab_ok (by decide) [(4, .bool false)] [] (by (simp only [go_sem, hb2, hb5, hb11, hb16, hb31]) <;> (repeat' with_reducible apply And.intro) <;> first | assumption | rfl | omega | (unfold maxLen; omega)) ?_
              refine athen_n ?_
              refine AW.ret ?_
              refine ablock_r ?_
              refine athen_r ?_
              obtain rfl := Option.some.inj h
              rw [← hd8 _ rfl] at ho7
              have h := ho7
              try simp only at h
              refine athen_r ?_
              refine ablock_r ?_
              refine athen_r ?_
              obtain rfl := Option.some.inj h
              exact ⟨rfl, [], [], [], rfl, (by (simp only [go_sem, hb2, hb5, hb11, hb16, hb31]) <;> (repeat' with_reducible apply And.intro) <;> first | assumption | rfl | omega | (unfold maxLen; omega))⟩
            · rw [if_neg (Bool.eq_false_iff.1 hb31)] at h
              refine AW.skip ?_
              refine ablock_n ?_
              refine athen_n ?_
              refine AW.ops ?_
              obtain ⟨c32, h⟩ := ck_some.1 h
              refine AO.allF tab_ok (by decide) [(0, .sl Y0 specs), (1, .sl Y1 h0), (5, .int .i64 (st1 + 1))] [] (by (simp only [go_sem, hb2, hb5, hb11, hb16, hb31]) <;> (repeat' with_reducible apply And.intro) <;> first | assumption | rfl | omega | (unfold maxLen; omega)) ?_
              obtain rfl := Option.some.inj h
              exact ⟨_, rfl, Wk.le [] [] [] rfl (by (simp only [go_sem, hb2, hb5, hb11, hb16, hb31]) <;> (repeat' with_reducible apply And.intro) <;> first | assumption | rfl | omega | (unfold maxLen; omega)) (by (simp only [go_sem, hb2, hb5, hb11, hb16, hb31]) <;> (repeat' with_reducible apply And.intro) <;> first | assumption | rfl | omega | (unfold maxLen; omega))⟩
        · rw [if_neg (Bool.eq_false_iff.1 hb11)] at h
          refine AW.exit ?_
          refine athen_e ?_
          obtain rfl := Option.some.inj h
          rw [← hd8 _ rfl] at ho7
          have h := ho7
          try simp only at h
          refine athen_e ?_
          refine ablock_s ?_
          refine athen_n ?_
          exact AW.weaken (Wk.le [] [] [] rfl (by (simp only [go_sem, hb2, hb5, hb11]) <;> (repeat' with_reducible apply And.intro) <;> first | assumption | rfl | omega | (unfold maxLen; omega)) (by (simp only [go_sem, hb2, hb5, hb11]) <;> (repeat' with_reducible apply And.intro) <;> first | assumption | rfl | omega | (unfold maxLen; omega))) (hk_linealref02_isFor_k1 () h)

set_option maxRecDepth 100000 in
set_option maxHeartbeats 2000000 in
theorem hc_linealref02_For (specs : List (Int × Int × (List (List Int)) × (List (List Int)))) (h0 : List (Int × Int × Int × Int × Int × Int)) {r : Bool × Int} (h : linealref02_For specs h0 = some r) : HC Try.prog 21 [] [.sl Y0 specs, .sl Y1 h0] [] (.tup [.bool r.1, .int .i64 r.2]) := by
  unfold linealref02_For at h
  refine HC.of_body tab_ok (res := [.tmp 4, .tmp 5]) Try.func21 rfl (by kernel_rfl) rfl (nt := 12) rfl (by decide) (by simp) ?_
  refine AW.seq ?_
  refine AW.ops ?_
  refine AO.allF tab_ok (by decide) [(0, .sl Y0 specs), (1, .sl Y1 h0)] [] (by (simp only [go_sem]) <;> (repeat' with_reducible apply And.intro) <;> first | assumption | rfl | omega | (unfold maxLen; omega)) ?_
  refine athen_n ?_
  refine AW.seq ?_
  refine AW.seq ?_
  refine AW.ops ?_
  refine AO.segF tab_ok 1 (by decide) [(0, .sl Y0 specs), (1, .sl Y1 h0), (6, .sl Y0 specs)] [] (by (simp only [go_sem]) <;> (repeat' with_reducible apply And.intro) <;> first | assumption | rfl | omega | (unfold maxLen; omega)) ?_
  obtain ⟨v0, hv1, h⟩ := Option.bind_eq_some_iff.1 h
  refine AO.call tab_ok (by decide) rfl rfl rfl (fun _ h => h) [] [] (hc_linealref02_areSpecs specs hv1) rfl (by (simp only [go_sem]) <;> (repeat' with_reducible apply And.intro) <;> first | assumption | rfl | omega | (unfold maxLen; omega)) (by (simp only [go_sem]) <;> (repeat' with_reducible apply And.intro) <;> first | assumption | rfl | omega | (unfold maxLen; omega)) [(0, .sl Y0 specs), (1, .sl Y1 h0), (7, .bool v0)] [] (by (simp only [go_sem]) <;> (repeat' with_reducible apply And.intro) <;> first | assumption | rfl | omega | (unfold maxLen; omega)) ?_
  refine AO.allF tab_ok (by decide) [(0, .sl Y0 specs), (1, .sl Y1 h0), (8, .bool (!v0))] [] (by (simp only [go_sem]) <;> (repeat' with_reducible apply And.intro) <;> first | assumption | rfl | omega | (unfold maxLen; omega)) ?_
  refine athen_n ?_
  refine AW.cond (b := (!v0)) rfl (fun hb2 => ?_) (fun hb2 => ?_)
  · rw [if_pos hb2] at h
    refine AW.seq ?_
    refine AW.ops ?_
    refine AO.allF tab_ok (by decide) [(4, .bool false), (5, .int .i64 10)] [] (by (simp only [go_sem, hb2]) <;> (repeat' with_reducible apply And.intro) <;> first | assumption | rfl | omega | (unfold maxLen; omega)) ?_
    refine athen_n ?_
    refine AW.ret ?_
    refine athen_r ?_
    obtain rfl := Option.some.inj h
    exact ⟨rfl, [], [], [], rfl, (by (simp only [go_sem, hb2]) <;> (repeat' with_reducible apply And.intro) <;> first | assumption | rfl | omega | (unfold maxLen; omega))⟩
  · rw [if_neg (Bool.eq_false_iff.1 hb2)] at h
    refine AW.skip ?_
    refine athen_n ?_
    refine AW.seq ?_
    refine AW.ops ?_
    refine AO.segF tab_ok 2 (by decide) [(9, .sl Y0 specs), (10, .sl Y1 h0)] [] (by (simp only [go_sem, hb2]) <;> (repeat' with_reducible apply And.intro) <;> first | assumption | rfl | omega | (unfold maxLen; omega)) ?_
    obtain ⟨v0_2, hv3, h⟩ := Option.bind_eq_some_iff.1 h
    refine AO.call tab_ok (by decide) rfl rfl rfl (fun _ h => h) [] [] (hc_linealref02_isFor specs h0 hv3) rfl (by (simp only [go_sem, hb2]) <;> (repeat' with_reducible apply And.intro) <;> first | assumption | rfl | omega | (unfold maxLen; omega)) (by (simp only [go_sem, hb2]) <;> (repeat' with_reducible apply And.intro) <;> first | assumption | rfl | omega | (unfold maxLen; omega)) [(11, .bool v0_2)] [] (by (simp only [go_sem, hb2]) <;> (repeat' with_reducible apply And.intro) <;> first | assumption | rfl | omega | (unfold maxLen; omega)) ?_
    refine AO.allF tab_ok (by decide) [(4, .bool v0_2), (5, .int .i64 0)] [] (by (simp only [go_sem, hb2]) <;> (repeat' with_reducible apply And.intro) <;> first | assumption | rfl | omega | (unfold maxLen; omega)) ?_
    refine athen_n ?_
    refine AW.ret ?_
    obtain rfl := Option.some.inj h
    exact ⟨rfl, [], [], [], rfl, (by (simp only [go_sem, hb2]) <;> (repeat' with_reducible apply And.intro) <;> first | assumption | rfl | omega | (unfold maxLen; omega))⟩

set_option maxRecDepth 100000 in
set_option maxHeartbeats 2000000 in
theorem hc_history_Before_1 (a0 : List (Int × Int × Int × Int × Int × Int)) (a1 : Int) (a2 : Int) {r : Bool} (h : history_Before_1 a0 a1 a2 = some r) : HC Try.prog 66 [(1000, .box 23 [.sl Y1 a0]), (1001, .box 3 [.int .i64 a1]), (1002, .box 3 [.int .i64 a2])] [.bp 1000 0, .bp 1001 0, .bp 1002 0] [(1000, .box 23 [.sl Y1 a0]), (1001, .box 3 [.int .i64 a1]), (1002, .box 3 [.int .i64 a2])] (.bool r) := by
  unfold history_Before_1 at h
  refine HC.of_body tab_ok (res := [.tmp 3]) Try.func66 rfl (by kernel_rfl) rfl (nt := 13) rfl (by decide) (by simp) ?_
  refine AW.seq ?_
  refine AW.ops ?_
  refine AO.allF tab_ok (by decide) [(0, .bp 1000 0), (1, .bp 1001 0), (2, .bp 1002 0)] [(1000, .box 23 [.sl Y1 a0]), (1001, .box 3 [.int .i64 a1]), (1002, .box 3 [.int .i64 a2])] (by (simp only [go_sem]) <;> (repeat' with_reducible apply And.intro) <;> first | assumption | rfl | omega | (unfold maxLen; omega)) ?_
  refine athen_n ?_
  refine AW.seq ?_
  refine AW.draw tab_ok mixed_ok [] [] (by decide) (by kernel_rfl) ?_
  obtain ⟨c2, h⟩ := ck_some.1 h
  obtain ⟨c3, h⟩ := ck_some.1 h
  refine adops_cut 6 (fun K' hK1 => ?_)
  try dsimp only [List.drop_succ_cons, List.drop_zero, List.take_succ_cons, List.take_zero]
  simp only [go_sem]
  repeat (with_reducible refine And.intro (by first | assumption | rfl | omega | trivial | (unfold maxLen; omega)) ?_)
  refine hK1 _ ?_
  obtain ⟨c5, h⟩ := ck_some.1 h
  obtain ⟨c6, h⟩ := ck_some.1 h
  refine adops_cut 2 (fun K' hK4 => ?_)
  try dsimp only [List.drop_succ_cons, List.drop_zero, List.take_succ_cons, List.take_zero]
  simp only [go_sem]
  repeat (with_reducible refine And.intro (by first | assumption | rfl | omega | trivial | (unfold maxLen; omega)) ?_)
  refine hK4 _ ?_
  obtain ⟨v0, hv7, h⟩ := Option.bind_eq_some_iff.1 h
  refine adops.call (by first | trivial | rfl) rfl rfl rfl (fun _ h => h) [] [] (hc_history_before (a0.getD a1.toNat (0, 0, 0, 0, 0, 0)) (a0.getD a2.toNat (0, 0, 0, 0, 0, 0)) hv7) rfl (by (simp only [go_sem]) <;> (repeat' with_reducible apply And.intro) <;> first | assumption | rfl | omega | (unfold maxLen; omega)) (by (simp only [go_sem]) <;> (repeat' with_reducible apply And.intro) <;> first | assumption | rfl | omega | (unfold maxLen; omega)) rfl ?_
  refine adops_cut 1 (fun K' hK8 => ?_)
  try dsimp only [List.drop_succ_cons, List.drop_zero, List.take_succ_cons, List.take_zero]
  simp only [go_sem]
  repeat (with_reducible refine And.intro (by first | assumption | rfl | omega | trivial | (unfold maxLen; omega)) ?_)
  refine hK8 _ ?_
  refine adops_nil ?_
  refine athen_n ?_
  refine AW.weaken (s' := ⟨fr [(3, .bool v0)], hpGet [(1000, .box 23 [.sl Y1 a0]), (1001, .box 3 [.int .i64 a1]), (1002, .box 3 [.int .i64 a2])], gt⟩) (Wk.to (by (simp only [go_sem]) <;> (repeat' with_reducible apply And.intro) <;> first | assumption | rfl | omega | (unfold maxLen; omega))) ?_
  refine AW.ret ?_
  obtain rfl := Option.some.inj h
  exact ⟨rfl, [], [], [], rfl, (by (simp only [go_sem]) <;> (repeat' with_reducible apply And.intro) <;> first | assumption | rfl | omega | (unfold maxLen; omega))⟩

set_option maxRecDepth 100000 in
set_option maxHeartbeats 2000000 in
theorem hc_history_told_6 (c0 : List (Int × Int × Int × Int × Int × Int)) (c1 : Int) (c2 : Int) {r : Bool} (h : history_told_6 c0 c1 c2 = some r) : HC Try.prog 58 [(1000, .box 23 [.sl Y1 c0]), (1001, .box 3 [.int .i64 c1]), (1002, .box 3 [.int .i64 c2])] [.int .i64 0, .fn (.func 66) [] [.bp 1000 0, .bp 1001 0, .bp 1002 0]] [(1000, .box 23 [.sl Y1 c0]), (1001, .box 3 [.int .i64 c1]), (1002, .box 3 [.int .i64 c2])] (.tup [.bool r, .int .i64 0]) := by
  unfold history_told_6 at h
  refine HC.of_body tab_ok (res := [.tmp 4, .tmp 5]) Try.func58 rfl (by kernel_rfl) rfl (nt := 13) rfl (by decide) (by simp) ?_
  refine AW.seq ?_
  refine AW.ops ?_
  refine AO.allF tab_ok (by decide) [(0, .int .i64 0), (1, .fn (.func 66) [] [.bp 1000 0, .bp 1001 0, .bp 1002 0])] [(1000, .box 23 [.sl Y1 c0]), (1001, .box 3 [.int .i64 c1]), (1002, .box 3 [.int .i64 c2])] (by (simp only [go_sem]) <;> (repeat' with_reducible apply And.intro) <;> first | assumption | rfl | omega | (unfold maxLen; omega)) ?_
  refine athen_n ?_
  refine AW.seq ?_
  refine AW.seq ?_
  refine AW.ops ?_
  refine AO.allF tab_ok (by decide) [(0, .int .i64 0), (1, .fn (.func 66) [] [.bp 1000 0, .bp 1001 0, .bp 1002 0]), (8, .bool false)] [(1000, .box 23 [.sl Y1 c0]), (1001, .box 3 [.int .i64 c1]), (1002, .box 3 [.int .i64 c2])] (by (simp only [go_sem]) <;> (repeat' with_reducible apply And.intro) <;> first | assumption | rfl | omega | (unfold maxLen; omega)) ?_
  refine athen_n ?_
  refine AW.cond (b := false) rfl (fun hb1 => by cases hb1) (fun _ => ?_)
  refine AW.skip ?_
  refine athen_n ?_
  refine AW.seq ?_
  refine AW.ops ?_
  refine AO.segF tab_ok 1 (by decide) [(11, .fn (.func 66) [] [.bp 1000 0, .bp 1001 0, .bp 1002 0])] [(1000, .box 23 [.sl Y1 c0]), (1001, .box 3 [.int .i64 c1]), (1002, .box 3 [.int .i64 c2])] (by (simp only [go_sem]) <;> (repeat' with_reducible apply And.intro) <;> first | assumption | rfl | omega | (unfold maxLen; omega)) ?_
  obtain ⟨v0, hv2, h⟩ := Option.bind_eq_some_iff.1 h
  refine AO.call tab_ok (by decide) rfl rfl rfl (fun _ h => h) [] [(1000, 1000), (1001, 1001), (1002, 1002)] (hc_history_Before_1 c0 c1 c2 hv2) rfl (by (simp only [go_sem]) <;> (repeat' with_reducible apply And.intro) <;> first | assumption | rfl | omega | (unfold maxLen; omega)) (by (simp only [go_sem]) <;> (repeat' with_reducible apply And.intro) <;> first | assumption | rfl | omega | (unfold maxLen; omega)) [(12, .bool v0)] [(1000, .box 23 [.sl Y1 c0]), (1001, .box 3 [.int .i64 c1]), (1002, .box 3 [.int .i64 c2])] (by (simp only [go_sem]) <;> (repeat' with_reducible apply And.intro) <;> first | assumption | rfl | omega | (unfold maxLen; omega)) ?_
  refine AO.allF tab_ok (by decide) [(4, .bool v0), (5, .int .i64 0)] [(1000, .box 23 [.sl Y1 c0]), (1001, .box 3 [.int .i64 c1]), (1002, .box 3 [.int .i64 c2])] (by (simp only [go_sem]) <;> (repeat' with_reducible apply And.intro) <;> first | assumption | rfl | omega | (unfold maxLen; omega)) ?_
  refine athen_n ?_
  refine AW.ret ?_
  obtain rfl := Option.some.inj h
  exact ⟨rfl, [], [], [], rfl, (by (simp only [go_sem]) <;> (repeat' with_reducible apply And.intro) <;> first | assumption | rfl | omega | (unfold maxLen; omega))⟩

set_option maxRecDepth 100000 in
set_option maxHeartbeats 2000000 in
theorem hc_history_told_7 (err : Int) (c0 : List (Int × Int × Int × Int × Int × Int)) (c1 : Int) (c2 : Int) (hnz_err : decide (err = 0) = false) {r : Unit} (h : history_told_7 err c0 c1 c2 = some r) : HC Try.prog 58 [(1000, .box 23 [.sl Y1 c0]), (1001, .box 3 [.int .i64 c1]), (1002, .box 3 [.int .i64 c2])] [.int .i64 err, .fn (.func 66) [] [.bp 1000 0, .bp 1001 0, .bp 1002 0]] [(1000, .box 23 [.sl Y1 c0]), (1001, .box 3 [.int .i64 c1]), (1002, .box 3 [.int .i64 c2])] (.tup [.bool false, .int .i64 err]) := by
  unfold history_told_7 at h
  refine HC.of_body tab_ok (res := [.tmp 4, .tmp 5]) Try.func58 rfl (by kernel_rfl) rfl (nt := 13) rfl (by decide) (by simp) ?_
  refine AW.seq ?_
  refine AW.ops ?_
  refine AO.allF tab_ok (by decide) [(0, .int .i64 err), (1, .fn (.func 66) [] [.bp 1000 0, .bp 1001 0, .bp 1002 0])] [(1000, .box 23 [.sl Y1 c0]), (1001, .box 3 [.int .i64 c1]), (1002, .box 3 [.int .i64 c2])] (by (simp only [go_sem, hnz_err]) <;> (repeat' with_reducible apply And.intro) <;> first | assumption | rfl | omega | (unfold maxLen; omega)) ?_
  refine athen_n ?_
  refine AW.seq ?_
  refine AW.seq ?_
  refine AW.ops ?_
  refine AO.allF tab_ok (by decide) [(0, .int .i64 err), (1, .fn (.func 66) [] [.bp 1000 0, .bp 1001 0, .bp 1002 0]), (8, .bool true)] [(1000, .box 23 [.sl Y1 c0]), (1001, .box 3 [.int .i64 c1]), (1002, .box 3 [.int .i64 c2])] (by (simp only [go_sem, hnz_err]) <;> (repeat' with_reducible apply And.intro) <;> first | assumption | rfl | omega | (unfold maxLen; omega)) ?_
  refine athen_n ?_
  refine AW.cond (b := true) rfl (fun _ => ?_) (fun hb1 => by cases hb1)
  refine AW.seq ?_
  refine AW.ops ?_
  refine AO.allF tab_ok (by decide) [(0, .int .i64 err), (6, .bool false)] [(1000, .box 23 [.sl Y1 c0]), (1001, .box 3 [.int .i64 c1]), (1002, .box 3 [.int .i64 c2])] (by (simp only [go_sem, hnz_err]) <;> (repeat' with_reducible apply And.intro) <;> first | assumption | rfl | omega | (unfold maxLen; omega)) ?_
  refine athen_n ?_
  refine AW.seq ?_
  refine AW.ops ?_
  refine AO.allF tab_ok (by decide) [(4, .bool false), (5, .int .i64 err)] [(1000, .box 23 [.sl Y1 c0]), (1001, .box 3 [.int .i64 c1]), (1002, .box 3 [.int .i64 c2])] (by (simp only [go_sem, hnz_err]) <;> (repeat' with_reducible apply And.intro) <;> first | assumption | rfl | omega | (unfold maxLen; omega)) ?_
  refine athen_n ?_
  refine AW.ret ?_
  refine athen_r ?_
  obtain rfl := Option.some.inj h
  exact ⟨rfl, [], [], [], rfl, (by (simp only [go_sem, hnz_err]) <;> (repeat' with_reducible apply And.intro) <;> first | assumption | rfl | omega | (unfold maxLen; omega))⟩

set_option maxRecDepth 100000 in
set_option maxHeartbeats 2000000 in
theorem hc_history_Before (h0 : List (Int × Int × Int × Int × Int × Int)) (a : Int) (b : Int) {r : Bool × Int} (h : history_Before h0 a b = some r) : HC Try.prog 22 [] [.sl Y1 h0, .int .i64 a, .int .i64 b] [] (.tup [.bool r.1, .int .i64 r.2]) := by
  unfold history_Before at h
  refine HC.of_body tab_ok (res := [.tmp 6, .tmp 7]) Try.func22 rfl (by kernel_rfl) rfl (nt := 24) rfl (by decide) (by simp) ?_
  refine AW.seq ?_
  refine AW.ops ?_
  refine AO.allF tab_ok (by decide) [(3, .bp 3 0), (4, .bp 4 0), (5, .bp 5 0)] [(3, .box 23 [.sl Y1 h0]), (4, .box 3 [.int .i64 a]), (5, .box 3 [.int .i64 b])] (by (simp only [go_sem]) <;> (repeat' with_reducible apply And.intro) <;> first | assumption | rfl | omega | (unfold maxLen; omega)) ?_
  refine athen_n ?_
  refine AW.have1 (fun b1 : Bool => history_Before_k1 h0 a b b1 = some r) (fun b1 => ⟨fr [(3, .bp 3 0), (4, .bp 4 0), (5, .bp 5 0), (8, .bool b1)], hpGet [(3, .box 23 [.sl Y1 h0]), (4, .box 3 [.int .i64 a]), (5, .box 3 [.int .i64 b])], gt⟩) (fun b1 h => ?_) (fun hk_history_Before_k1 => ?_)
  · unfold history_Before_k1 at h
    refine AW.seq ?_
    refine AW.ops ?_
    refine AO.segF tab_ok 2 (by decide) [(3, .bp 3 0), (4, .bp 4 0), (5, .bp 5 0), (17, .sl Y1 h0), (18, .bool b1)] [(3, .box 23 [.sl Y1 h0]), (4, .box 3 [.int .i64 a]), (5, .box 3 [.int .i64 b])] (by (simp only [go_sem]) <;> (repeat' with_reducible apply And.intro) <;> first | assumption | rfl | omega | (unfold maxLen; omega)) ?_
    obtain ⟨v0_3, hv1, h⟩ := Option.bind_eq_some_iff.1 h
    refine AO.call tab_ok (by decide) rfl rfl rfl (fun _ h => h) [] [] (hc_history_check h0 b1 hv1) rfl (by (simp only [go_sem]) <;> (repeat' with_reducible apply And.intro) <;> first | assumption | rfl | omega | (unfold maxLen; omega)) (by (simp only [go_sem]) <;> (repeat' with_reducible apply And.intro) <;> first | assumption | rfl | omega | (unfold maxLen; omega)) [(3, .bp 3 0), (4, .bp 4 0), (5, .bp 5 0), (19, .int .i64 v0_3)] [(3, .box 23 [.sl Y1 h0]), (4, .box 3 [.int .i64 a]), (5, .box 3 [.int .i64 b])] (by (simp only [go_sem]) <;> (repeat' with_reducible apply And.intro) <;> first | assumption | rfl | omega | (unfold maxLen; omega)) ?_
    refine AO.segF tab_ok 1 (by decide) [(19, .int .i64 v0_3), (20, .fn (.func 66) [] [.bp 3 0, .bp 4 0, .bp 5 0])] [(3, .box 23 [.sl Y1 h0]), (4, .box 3 [.int .i64 a]), (5, .box 3 [.int .i64 b])] (by (simp only [go_sem]) <;> (repeat' with_reducible apply And.intro) <;> first | assumption | rfl | omega | (unfold maxLen; omega)) ?_
    rcases Bool.eq_false_or_eq_true (decide (v0_3 = 0)) with hb2 | hb2
    · rw [if_pos hb2] at h
      have hz3 : v0_3 = 0 := by simpa using hb2
      refine AO.weaken (s' := ⟨fr [(19, .int .i64 0), (20, .fn (.func 66) [] [.bp 3 0, .bp 4 0, .bp 5 0])], hpGet [(3, .box 23 [.sl Y1 h0]), (4, .box 3 [.int .i64 a]), (5, .box 3 [.int .i64 b])], gt⟩) (Wk.to (by (simp only [go_sem, hb2, hz3]) <;> (repeat' with_reducible apply And.intro) <;> first | assumption | rfl | omega | (unfold maxLen; omega))) ?_
      obtain ⟨v0_4, hv4, h⟩ := Option.bind_eq_some_iff.1 h
      refine AO.call tab_ok (by decide) rfl rfl rfl (fun _ h => h) [] [(1000, 3), (1001, 4), (1002, 5)] (hc_history_told_6 h0 a b hv4) rfl (by (simp only [go_sem, hb2, hz3]) <;> (repeat' with_reducible apply And.intro) <;> first | assumption | rfl | omega | (unfold maxLen; omega)) (by (simp only [go_sem, hb2, hz3]) <;> (repeat' with_reducible apply And.intro) <;> first | assumption | rfl | omega | (unfold maxLen; omega)) [(21, .tup [.bool v0_4, .int .i64 0])] [] (by (simp only [go_sem, hb2, hz3]) <;> (repeat' with_reducible apply And.intro) <;> first | assumption | rfl | omega | (unfold maxLen; omega)) ?_
      refine AO.allF tab_ok (by decide) [(6, .bool v0_4), (7, .int .i64 0)] [] (by (simp only [go_sem, hb2, hz3]) <;> (repeat' with_reducible apply And.intro) <;> first | assumption | rfl | omega | (unfold maxLen; omega)) ?_
      refine athen_n ?_
      refine AW.ret ?_
      obtain rfl := Option.some.inj h
      exact ⟨rfl, [], [], [], rfl, (by (simp only [go_sem, hb2, hz3]) <;> (repeat' with_reducible apply And.intro) <;> first | assumption | rfl | omega | (unfold maxLen; omega))⟩
    · rw [if_neg (Bool.eq_false_iff.1 hb2)] at h
      refine AO.weaken (s' := ⟨fr [(19, .int .i64 v0_3), (20, .fn (.func 66) [] [.bp 3 0, .bp 4 0, .bp 5 0])], hpGet [(3, .box 23 [.sl Y1 h0]), (4, .box 3 [.int .i64 a]), (5, .box 3 [.int .i64 b])], gt⟩) (Wk.to (by (simp only [go_sem, hb2]) <;> (repeat' with_reducible apply And.intro) <;> first | assumption | rfl | omega | (unfold maxLen; omega))) ?_
      obtain ⟨v0_5, hv5, h⟩ := Option.bind_eq_some_iff.1 h
      refine AO.call tab_ok (by decide) rfl rfl rfl (fun _ h => h) [] [(1000, 3), (1001, 4), (1002, 5)] (hc_history_told_7 v0_3 h0 a b hb2 hv5) rfl (by (simp only [go_sem, hb2]) <;> (repeat' with_reducible apply And.intro) <;> first | assumption | rfl | omega | (unfold maxLen; omega)) (by (simp only [go_sem, hb2]) <;> (repeat' with_reducible apply And.intro) <;> first | assumption | rfl | omega | (unfold maxLen; omega)) [(21, .tup [.bool false, .int .i64 v0_3])] [] (by (simp only [go_sem, hb2]) <;> (repeat' with_reducible apply And.intro) <;> first | assumption | rfl | omega | (unfold maxLen; omega)) ?_
      refine AO.allF tab_ok (by decide) [(6, .bool false), (7, .int .i64 v0_3)] [] (by (simp only [go_sem, hb2]) <;> (repeat' with_reducible apply And.intro) <;> first | assumption | rfl | omega | (unfold maxLen; omega)) ?_
      refine athen_n ?_
      refine AW.ret ?_
      obtain rfl := Option.some.inj h
      exact ⟨rfl, [], [], [], rfl, (by (simp only [go_sem, hb2]) <;> (repeat' with_reducible apply And.intro) <;> first | assumption | rfl | omega | (unfold maxLen; omega))⟩
  · refine AW.seq ?_
    refine AW.ops ?_
    refine AO.segF tab_ok 2 (by decide) [(3, .bp 3 0), (4, .bp 4 0), (5, .bp 5 0), (9, .sl Y1 h0), (10, .int .i64 a)] [(3, .box 23 [.sl Y1 h0]), (4, .box 3 [.int .i64 a]), (5, .box 3 [.int .i64 b])] (by (simp only [go_sem]) <;> (repeat' with_reducible apply And.intro) <;> first | assumption | rfl | omega | (unfold maxLen; omega)) ?_
    obtain ⟨v0, hv6, h⟩ := Option.bind_eq_some_iff.1 h
    refine AO.call tab_ok (by decide) rfl rfl rfl (fun _ h => h) [] [] (hc_history_isIndex h0 a hv6) rfl (by (simp only [go_sem]) <;> (repeat' with_reducible apply And.intro) <;> first | assumption | rfl | omega | (unfold maxLen; omega)) (by (simp only [go_sem]) <;> (repeat' with_reducible apply And.intro) <;> first | assumption | rfl | omega | (unfold maxLen; omega)) [(3, .bp 3 0), (4, .bp 4 0), (5, .bp 5 0), (11, .bool v0)] [(3, .box 23 [.sl Y1 h0]), (4, .box 3 [.int .i64 a]), (5, .box 3 [.int .i64 b])] (by (simp only [go_sem]) <;> (repeat' with_reducible apply And.intro) <;> first | assumption | rfl | omega | (unfold maxLen; omega)) ?_
    refine AO.segF tab_ok 1 (by decide) [(3, .bp 3 0), (4, .bp 4 0), (5, .bp 5 0), (12, .bool v0)] [(3, .box 23 [.sl Y1 h0]), (4, .box 3 [.int .i64 a]), (5, .box 3 [.int .i64 b])] (by (simp only [go_sem]) <;> (repeat' with_reducible apply And.intro) <;> first | assumption | rfl | omega | (unfold maxLen; omega)) ?_
    rcases Bool.eq_false_or_eq_true v0 with hb7 | hb7
    · rw [if_pos hb7] at h
      refine AO.weaken (s' := ⟨fr [(3, .bp 3 0), (4, .bp 4 0), (5, .bp 5 0), (12, .bool true)], hpGet [(3, .box 23 [.sl Y1 h0]), (4, .box 3 [.int .i64 a]), (5, .box 3 [.int .i64 b])], gt⟩) (Wk.to (by (simp only [go_sem, hb7]) <;> (repeat' with_reducible apply And.intro) <;> first | assumption | rfl | omega | (unfold maxLen; omega))) ?_
      refine AO.segF tab_ok 2 (by decide) [(3, .bp 3 0), (4, .bp 4 0), (5, .bp 5 0), (12, .bool true), (13, .sl Y1 h0), (14, .int .i64 b)] [(3, .box 23 [.sl Y1 h0]), (4, .box 3 [.int .i64 a]), (5, .box 3 [.int .i64 b])] (by (simp only [go_sem, hb7]) <;> (repeat' with_reducible apply And.intro) <;> first | assumption | rfl | omega | (unfold maxLen; omega)) ?_
      obtain ⟨v0_2, hv8, h⟩ := Option.bind_eq_some_iff.1 h
      refine AO.call tab_ok (by decide) rfl rfl rfl (fun _ h => ⟨fun _ => h, fun hn => absurd rfl hn⟩) [] [] (hc_history_isIndex h0 b hv8) rfl (by (simp only [go_sem, hb7]) <;> (repeat' with_reducible apply And.intro) <;> first | assumption | rfl | omega | (unfold maxLen; omega)) (by (simp only [go_sem, hb7]) <;> (repeat' with_reducible apply And.intro) <;> first | assumption | rfl | omega | (unfold maxLen; omega)) [(3, .bp 3 0), (4, .bp 4 0), (5, .bp 5 0), (12, .bool true), (15, .bool v0_2)] [(3, .box 23 [.sl Y1 h0]), (4, .box 3 [.int .i64 a]), (5, .box 3 [.int .i64 b])] (by (simp only [go_sem, hb7]) <;> (repeat' with_reducible apply And.intro) <;> first | assumption | rfl | omega | (unfold maxLen; omega)) ?_
      refine AO.allF tab_ok (by decide) [(3, .bp 3 0), (4, .bp 4 0), (5, .bp 5 0), (8, .bool v0_2)] [(3, .box 23 [.sl Y1 h0]), (4, .box 3 [.int .i64 a]), (5, .box 3 [.int .i64 b])] (by (simp only [go_sem, hb7]) <;> (repeat' with_reducible apply And.intro) <;> first | assumption | rfl | omega | (unfold maxLen; omega)) ?_
      refine athen_n ?_
      exact AW.weaken (Wk.le [] [] [] rfl (by (simp only [go_sem, hb7]) <;> (repeat' with_reducible apply And.intro) <;> first | assumption | rfl | omega | (unfold maxLen; omega)) (by (simp only [go_sem, hb7]) <;> (repeat' with_reducible apply And.intro) <;> first | assumption | rfl | omega | (unfold maxLen; omega))) (hk_history_Before_k1 _ h)
    · rw [if_neg (Bool.eq_false_iff.1 hb7)] at h
      refine AO.weaken (s' := ⟨fr [(3, .bp 3 0), (4, .bp 4 0), (5, .bp 5 0), (12, .bool false)], hpGet [(3, .box 23 [.sl Y1 h0]), (4, .box 3 [.int .i64 a]), (5, .box 3 [.int .i64 b])], gt⟩) (Wk.to (by (simp only [go_sem, hb7]) <;> (repeat' with_reducible apply And.intro) <;> first | assumption | rfl | omega | (unfold maxLen; omega))) ?_
      refine AO.allF tab_ok (by decide) [(3, .bp 3 0), (4, .bp 4 0), (5, .bp 5 0), (8, .bool false)] [(3, .box 23 [.sl Y1 h0]), (4, .box 3 [.int .i64 a]), (5, .box 3 [.int .i64 b])] (by (simp only [go_sem, hb7]) <;> (repeat' with_reducible apply And.intro) <;> first | assumption | rfl | omega | (unfold maxLen; omega)) ?_
      refine athen_n ?_
      exact AW.weaken (Wk.le [] [] [] rfl (by (simp only [go_sem, hb7]) <;> (repeat' with_reducible apply And.intro) <;> first | assumption | rfl | omega | (unfold maxLen; omega)) (by (simp only [go_sem, hb7]) <;> (repeat' with_reducible apply And.intro) <;> first | assumption | rfl | omega | (unfold maxLen; omega))) (hk_history_Before_k1 _ h)

set_option maxRecDepth 100000 in
set_option maxHeartbeats 2000000 in
theorem hc_linealref02_Before (h0 : List (Int × Int × Int × Int × Int × Int)) (a : Int) (b : Int) {r : Bool × Int} (h : linealref02_Before h0 a b = some r) : HC Try.prog 23 [] [.sl Y1 h0, .int .i64 a, .int .i64 b] [] (.tup [.bool r.1, .int .i64 r.2]) := by
  unfold linealref02_Before at h
  refine HC.of_body tab_ok (res := [.tmp 6, .tmp 7]) Try.func23 rfl (by kernel_rfl) rfl (nt := 34) rfl (by decide) (by simp) ?_
  refine AW.seq ?_
  refine AW.ops ?_
  refine AO.allF tab_ok (by decide) [(0, .sl Y1 h0), (1, .int .i64 a), (2, .int .i64 b)] [] (by (simp only [go_sem]) <;> (repeat' with_reducible apply And.intro) <;> first | assumption | rfl | omega | (unfold maxLen; omega)) ?_
  refine athen_n ?_
  refine AW.seq ?_
  refine AW.seq ?_
  refine AW.ops ?_
  refine AO.segF tab_ok 1 (by decide) [(0, .sl Y1 h0), (1, .int .i64 a), (2, .int .i64 b), (8, .sl Y1 h0)] [] (by (simp only [go_sem]) <;> (repeat' with_reducible apply And.intro) <;> first | assumption | rfl | omega | (unfold maxLen; omega)) ?_
  obtain ⟨v0, hv1, h⟩ := Option.bind_eq_some_iff.1 h
  refine AO.call tab_ok (by decide) rfl rfl rfl (fun _ h => h) [] [] (hc_linealref02_Valid h0 hv1) rfl (by (simp only [go_sem]) <;> (repeat' with_reducible apply And.intro) <;> first | assumption | rfl | omega | (unfold maxLen; omega)) (by (simp only [go_sem]) <;> (repeat' with_reducible apply And.intro) <;> first | assumption | rfl | omega | (unfold maxLen; omega)) [(0, .sl Y1 h0), (1, .int .i64 a), (2, .int .i64 b), (9, .bool v0)] [] (by (simp only [go_sem]) <;> (repeat' with_reducible apply And.intro) <;> first | assumption | rfl | omega | (unfold maxLen; omega)) ?_
  refine AO.allF tab_ok (by decide) [(0, .sl Y1 h0), (1, .int .i64 a), (2, .int .i64 b), (10, .bool (!v0))] [] (by (simp only [go_sem]) <;> (repeat' with_reducible apply And.intro) <;> first | assumption | rfl | omega | (unfold maxLen; omega)) ?_
  refine athen_n ?_
  refine AW.cond (b := (!v0)) rfl (fun hb2 => ?_) (fun hb2 => ?_)
  · rw [if_pos hb2] at h
    refine AW.seq ?_
    refine AW.ops ?_
    refine AO.allF tab_ok (by decide) [(6, .bool false), (7, .int .i64 20)] [] (by (simp only [go_sem, hb2]) <;> (repeat' with_reducible apply And.intro) <;> first | assumption | rfl | omega | (unfold maxLen; omega)) ?_
    refine athen_n ?_
    refine AW.ret ?_
    refine athen_r ?_
    obtain rfl := Option.some.inj h
    exact ⟨rfl, [], [], [], rfl, (by (simp only [go_sem, hb2]) <;> (repeat' with_reducible apply And.intro) <;> first | assumption | rfl | omega | (unfold maxLen; omega))⟩
  · rw [if_neg (Bool.eq_false_iff.1 hb2)] at h
    refine AW.skip ?_
    refine athen_n ?_
    refine AW.seq ?_
    refine AW.seq ?_
    refine AW.ops ?_
    obtain ⟨c3, h⟩ := ck_some.1 h
    refine AO.segF tab_ok 4 (by decide) [(0, .sl Y1 h0), (1, .int .i64 a), (2, .int .i64 b), (11, .int .i64 a), (14, .int .i64 ((h0.length : Int) - 1))] [] (by (simp only [go_sem, hb2]) <;> (repeat' with_reducible apply And.intro) <;> first | assumption | rfl | omega | (unfold maxLen; omega)) ?_
    obtain ⟨v0_2, hv4, h⟩ := Option.bind_eq_some_iff.1 h
    refine AO.call tab_ok (by decide) rfl rfl rfl (fun _ h => h) [] [] (hc_linealref02_within 0 a ((h0.length : Int) - 1) hv4) rfl (by (simp only [go_sem, hb2]) <;> (repeat' with_reducible apply And.intro) <;> first | assumption | rfl | omega | (unfold maxLen; omega)) (by (simp only [go_sem, hb2]) <;> (repeat' with_reducible apply And.intro) <;> first | assumption | rfl | omega | (unfold maxLen; omega)) [(0, .sl Y1 h0), (1, .int .i64 a), (2, .int .i64 b), (15, .bool v0_2)] [] (by (simp only [go_sem, hb2]) <;> (repeat' with_reducible apply And.intro) <;> first | assumption | rfl | omega | (unfold maxLen; omega)) ?_
    refine AO.segF tab_ok 2 (by decide) [(0, .sl Y1 h0), (1, .int .i64 a), (2, .int .i64 b), (17, .bool (!v0_2))] [] (by (simp only [go_sem, hb2]) <;> (repeat' with_reducible apply And.intro) <;> first | assumption | rfl | omega | (unfold maxLen; omega)) ?_
    rcases Bool.eq_false_or_eq_true (!v0_2) with hb5 | hb5
    · rw [if_pos hb5] at h
      refine AO.weaken (s' := ⟨fr [(0, .sl Y1 h0), (1, .int .i64 a), (2, .int .i64 b), (17, .bool true)], hpGet [], gt⟩) (Wk.to (by (simp only [go_sem, hb2, hb5]) <;> (repeat' with_reducible apply And.intro) <;> first | assumption | rfl | omega | (unfold maxLen; omega))) ?_
      refine AO.segF tab_ok 4 (by decide) [(0, .sl Y1 h0), (1, .int .i64 a), (2, .int .i64 b), (17, .bool true), (18, .cv (undef)), (21, .cv (undef))] [] (by (simp only [go_sem, hb2, hb5]) <;> (repeat' with_reducible apply And.intro) <;> first | assumption | rfl | omega | (unfold maxLen; omega)) ?_
      refine AO.allF tab_ok (by decide) [(0, .sl Y1 h0), (1, .int .i64 a), (2, .int .i64 b), (24, .bool true)] [] (by (simp only [go_sem, hb2, hb5]) <;> (repeat' with_reducible apply And.intro) <;> first | assumption | rfl | omega | (unfold maxLen; omega)) ?_
      refine athen_n ?_
      refine AW.cond (b := true) rfl (fun _ => ?_) (fun hb6 => by cases hb6)
      refine AW.seq ?_
      refine AW.ops ?_
      refine AO.allF tab_ok (by decide) [(6, .bool false), (7, .int .i64 2)] [] (by (simp only [go_sem, hb2, hb5]) <;> (repeat' with_reducible apply And.intro) <;> first | assumption | rfl | omega | (unfold maxLen; omega)) ?_
      refine athen_n ?_
      refine AW.ret ?_
      refine athen_r ?_
      obtain rfl := Option.some.inj h
      exact ⟨rfl, [], [], [], rfl, (by (simp only [go_sem, hb2, hb5]) <;> (repeat' with_reducible apply And.intro) <;> first | assumption | rfl | omega | (unfold maxLen; omega))⟩
    · rw [if_neg (Bool.eq_false_iff.1 hb5)] at h
      refine AO.weaken (s' := ⟨fr [(0, .sl Y1 h0), (1, .int .i64 a), (2, .int .i64 b), (17, .bool false)], hpGet [], gt⟩) (Wk.to (by (simp only [go_sem, hb2, hb5]) <;> (repeat' with_reducible apply And.intro) <;> first | assumption | rfl | omega | (unfold maxLen; omega))) ?_
      obtain ⟨c7, h⟩ := ck_some.1 h
      refine AO.segF tab_ok 4 (by decide) [(0, .sl Y1 h0), (1, .int .i64 a), (2, .int .i64 b), (17, .bool false), (18, .int .i64 b), (21, .int .i64 ((h0.length : Int) - 1))] [] (by (simp only [go_sem, hb2, hb5]) <;> (repeat' with_reducible apply And.intro) <;> first | assumption | rfl | omega | (unfold maxLen; omega)) ?_
      obtain ⟨v0_3, hv8, h⟩ := Option.bind_eq_some_iff.1 h
      refine AO.call tab_ok (by decide) rfl rfl rfl (fun _ h => ⟨fun _ => h, fun hn => absurd rfl hn⟩) [] [] (hc_linealref02_within 0 b ((h0.length : Int) - 1) hv8) rfl (by (simp only [go_sem, hb2, hb5]) <;> (repeat' with_reducible apply And.intro) <;> first | assumption | rfl | omega | (unfold maxLen; omega)) (by (simp only [go_sem, hb2, hb5]) <;> (repeat' with_reducible apply And.intro) <;> first | assumption | rfl | omega | (unfold maxLen; omega)) [(0, .sl Y1 h0), (1, .int .i64 a), (2, .int .i64 b), (17, .bool false), (22, .bool v0_3)] [] (by (simp only [go_sem, hb2, hb5]) <;> (repeat' with_reducible apply And.intro) <;> first | assumption | rfl | omega | (unfold maxLen; omega)) ?_
      refine AO.allF tab_ok (by decide) [(0, .sl Y1 h0), (1, .int .i64 a), (2, .int .i64 b), (24, .bool (!v0_3))] [] (by (simp only [go_sem, hb2, hb5]) <;> (repeat' with_reducible apply And.intro) <;> first | assumption | rfl | omega | (unfold maxLen; omega)) ?_
      refine athen_n ?_
      refine AW.cond (b := (!v0_3)) rfl (fun hb9 => ?_) (fun hb9 => ?_)
      · rw [if_pos hb9] at h
        refine AW.seq ?_
        refine AW.ops ?_
        refine AO.allF tab_ok (by decide) [(6, .bool false), (7, .int .i64 2)] [] (by (simp only [go_sem, hb2, hb5, hb9]) <;> (repeat' with_reducible apply And.intro) <;> first | assumption | rfl | omega | (unfold maxLen; omega)) ?_
        refine athen_n ?_
        refine AW.ret ?_
        refine athen_r ?_
        obtain rfl := Option.some.inj h
        exact ⟨rfl, [], [], [], rfl, (by (simp only [go_sem, hb2, hb5, hb9]) <;> (repeat' with_reducible apply And.intro) <;> first | assumption | rfl | omega | (unfold maxLen; omega))⟩
      · rw [if_neg (Bool.eq_false_iff.1 hb9)] at h
        refine AW.skip ?_
        refine athen_n ?_
        refine AW.seq ?_
        refine AW.draw tab_ok mixed_ok [] [] (by decide) (by kernel_rfl) ?_
        obtain ⟨c11, h⟩ := ck_some.1 h
        obtain ⟨c12, h⟩ := ck_some.1 h
        refine adops_cut 6 (fun K' hK10 => ?_)
        try dsimp only [List.drop_succ_cons, List.drop_zero, List.take_succ_cons, List.take_zero]
        simp only [go_sem, hb2, hb5, hb9]
        repeat (with_reducible refine And.intro (by first | assumption | rfl | omega | trivial | (unfold maxLen; omega)) ?_)
        refine hK10 _ ?_
        obtain ⟨c14, h⟩ := ck_some.1 h
        obtain ⟨c15, h⟩ := ck_some.1 h
        refine adops_cut 2 (fun K' hK13 => ?_)
        try dsimp only [List.drop_succ_cons, List.drop_zero, List.take_succ_cons, List.take_zero]
        simp only [go_sem, hb2, hb5, hb9]
        repeat (with_reducible refine And.intro (by first | assumption | rfl | omega | trivial | (unfold maxLen; omega)) ?_)
        refine hK13 _ ?_
        obtain ⟨v0_4, hv16, h⟩ := Option.bind_eq_some_iff.1 h
        refine adops.call (by first | trivial | rfl) rfl rfl rfl (fun _ h => h) [] [] (hc_linealref02_before (h0.getD a.toNat (0, 0, 0, 0, 0, 0)) (h0.getD b.toNat (0, 0, 0, 0, 0, 0)) hv16) rfl (by (simp only [go_sem, hb2, hb5, hb9]) <;> (repeat' with_reducible apply And.intro) <;> first | assumption | rfl | omega | (unfold maxLen; omega)) (by (simp only [go_sem, hb2, hb5, hb9]) <;> (repeat' with_reducible apply And.intro) <;> first | assumption | rfl | omega | (unfold maxLen; omega)) rfl ?_
        refine adops_cut 2 (fun K' hK17 => ?_)
        try dsimp only [List.drop_succ_cons, List.drop_zero, List.take_succ_cons, List.take_zero]
        simp only [go_sem, hb2, hb5, hb9]
        repeat (with_reducible refine And.intro (by first | assumption | rfl | omega | trivial | (unfold maxLen; omega)) ?_)
        refine hK17 _ ?_
        refine adops_nil ?_
        refine athen_n ?_
        refine AW.weaken (s' := ⟨fr [(6, .bool v0_4), (7, .int .i64 0)], hpGet [], gt⟩) (Wk.to (by (simp only [go_sem, hb2, hb5, hb9]) <;> (repeat' with_reducible apply And.intro) <;> first | assumption | rfl | omega | (unfold maxLen; omega))) ?_
        refine AW.ret ?_
        obtain rfl := Option.some.inj h
        exact ⟨rfl, [], [], [], rfl, (by (simp only [go_sem, hb2, hb5, hb9]) <;> (repeat' with_reducible apply And.intro) <;> first | assumption | rfl | omega | (unfold maxLen; omega))⟩

set_option maxRecDepth 100000 in
set_option maxHeartbeats 2000000 in
theorem hc_lineallaw02_HistoryValids (specs : List (Int × Int × (List (List Int)) × (List (List Int)))) (h0 : List (Int × Int × Int × Int × Int × Int)) (at0 : Int × Int) {r : Bool} (h : lineallaw02_HistoryValids specs h0 at0 = some r) : HC Try.prog 3 [] [.sl Y0 specs, .sl Y1 h0, .agg [.int .i64 at0.1, .int .i64 at0.2]] [] (.bool r) := by
  unfold lineallaw02_HistoryValids at h
  refine HC.of_body tab_ok (res := [.tmp 6]) Try.func3 rfl (by kernel_rfl) rfl (nt := 80) rfl (by decide) (by simp) ?_
  refine AW.seq ?_
  refine AW.ops ?_
  refine AO.allF tab_ok (by decide) [(0, .sl Y0 specs), (1, .sl Y1 h0), (5, .bp 5 0)] [(5, .box 24 [.int .i64 at0.1, .int .i64 at0.2])] (by (simp only [go_sem]) <;> (repeat' with_reducible apply And.intro) <;> first | assumption | rfl | omega | (unfold maxLen; omega)) ?_
  refine athen_n ?_
  refine AW.seq ?_
  refine AW.seq ?_
  refine AW.ops ?_
  refine AO.segF tab_ok 1 (by decide) [(0, .sl Y0 specs), (1, .sl Y1 h0), (5, .bp 5 0), (15, .sl Y0 specs)] [(5, .box 24 [.int .i64 at0.1, .int .i64 at0.2])] (by (simp only [go_sem]) <;> (repeat' with_reducible apply And.intro) <;> first | assumption | rfl | omega | (unfold maxLen; omega)) ?_
  obtain ⟨v0, hv1, h⟩ := Option.bind_eq_some_iff.1 h
  refine AO.call tab_ok (by decide) rfl rfl rfl (fun _ h => h) [] [] (hc_lineallaw02_Large specs hv1) rfl (by (simp only [go_sem]) <;> (repeat' with_reducible apply And.intro) <;> first | assumption | rfl | omega | (unfold maxLen; omega)) (by (simp only [go_sem]) <;> (repeat' with_reducible apply And.intro) <;> first | assumption | rfl | omega | (unfold maxLen; omega)) [(0, .sl Y0 specs), (1, .sl Y1 h0), (5, .bp 5 0), (16, .bool v0)] [(5, .box 24 [.int .i64 at0.1, .int .i64 at0.2])] (by (simp only [go_sem]) <;> (repeat' with_reducible apply And.intro) <;> first | assumption | rfl | omega | (unfold maxLen; omega)) ?_
  refine AO.segF tab_ok 1 (by decide) [(0, .sl Y0 specs), (1, .sl Y1 h0), (5, .bp 5 0), (17, .bool v0)] [(5, .box 24 [.int .i64 at0.1, .int .i64 at0.2])] (by (simp only [go_sem]) <;> (repeat' with_reducible apply And.intro) <;> first | assumption | rfl | omega | (unfold maxLen; omega)) ?_
  rcases Bool.eq_false_or_eq_true v0 with hb2 | hb2
  · rw [if_pos hb2] at h
    refine AO.weaken (s' := ⟨fr [(0, .sl Y0 specs), (1, .sl Y1 h0), (5, .bp 5 0), (17, .bool true)], hpGet [(5, .box 24 [.int .i64 at0.1, .int .i64 at0.2])], gt⟩) (Wk.to (by (simp only [go_sem, hb2]) <;> (repeat' with_reducible apply And.intro) <;> first | assumption | rfl | omega | (unfold maxLen; omega))) ?_
    refine AO.allF tab_ok (by decide) [(0, .sl Y0 specs), (1, .sl Y1 h0), (5, .bp 5 0), (20, .bool true)] [(5, .box 24 [.int .i64 at0.1, .int .i64 at0.2])] (by (simp only [go_sem, hb2]) <;> (repeat' with_reducible apply And.intro) <;> first | assumption | rfl | omega | (unfold maxLen; omega)) ?_
    refine athen_n ?_
    refine AW.cond (b := true) rfl (fun _ => ?_) (fun hb3 => by cases hb3)
    refine AW.seq ?_
    refine AW.ops ?_
    obtain ⟨v0_2, hv4, h⟩ := Option.bind_eq_some_iff.1 h
    refine AO.call tab_ok (by decide) rfl rfl rfl (fun _ h => h) [] [] (hc_lineallaw02_Sane hv4) rfl (by (simp only [go_sem, hb2]) <;> (repeat' with_reducible apply And.intro) <;> first | assumption | rfl | omega | (unfold maxLen; omega)) (by (simp only [go_sem, hb2]) <;> (repeat' with_reducible apply And.intro) <;> first | assumption | rfl | omega | (unfold maxLen; omega)) [(21, .bool v0_2)] [] (by (simp only [go_sem, hb2]) <;> (repeat' with_reducible apply And.intro) <;> first | assumption | rfl | omega | (unfold maxLen; omega)) ?_
    refine AO.allF tab_ok (by decide) [(6, .bool v0_2)] [] (by (simp only [go_sem, hb2]) <;> (repeat' with_reducible apply And.intro) <;> first | assumption | rfl | omega | (unfold maxLen; omega)) ?_
    refine athen_n ?_
    refine AW.ret ?_
    refine athen_r ?_
    obtain rfl := Option.some.inj h
    exact ⟨rfl, [], [], [], rfl, (by (simp only [go_sem, hb2]) <;> (repeat' with_reducible apply And.intro) <;> first | assumption | rfl | omega | (unfold maxLen; omega))⟩
  · rw [if_neg (Bool.eq_false_iff.1 hb2)] at h
    refine AO.weaken (s' := ⟨fr [(0, .sl Y0 specs), (1, .sl Y1 h0), (5, .bp 5 0), (17, .bool false)], hpGet [(5, .box 24 [.int .i64 at0.1, .int .i64 at0.2])], gt⟩) (Wk.to (by (simp only [go_sem, hb2]) <;> (repeat' with_reducible apply And.intro) <;> first | assumption | rfl | omega | (unfold maxLen; omega))) ?_
    refine AO.segF tab_ok 1 (by decide) [(0, .sl Y0 specs), (1, .sl Y1 h0), (5, .bp 5 0), (17, .bool false), (18, .sl Y1 h0)] [(5, .box 24 [.int .i64 at0.1, .int .i64 at0.2])] (by (simp only [go_sem, hb2]) <;> (repeat' with_reducible apply And.intro) <;> first | assumption | rfl | omega | (unfold maxLen; omega)) ?_
    obtain ⟨v0_3, hv5, h⟩ := Option.bind_eq_some_iff.1 h
    refine AO.call tab_ok (by decide) rfl rfl rfl (fun _ h => ⟨fun _ => h, fun hn => absurd rfl hn⟩) [] [] (hc_lineallaw02_Long h0 hv5) rfl (by (simp only [go_sem, hb2]) <;> (repeat' with_reducible apply And.intro) <;> first | assumption | rfl | omega | (unfold maxLen; omega)) (by (simp only [go_sem, hb2]) <;> (repeat' with_reducible apply And.intro) <;> first | assumption | rfl | omega | (unfold maxLen; omega)) [(0, .sl Y0 specs), (1, .sl Y1 h0), (5, .bp 5 0), (17, .bool false), (19, .bool (decide (40 < (h0.length : Int))))] [(5, .box 24 [.int .i64 at0.1, .int .i64 at0.2])] (by (simp only [go_sem, hb2]) <;> (repeat' with_reducible apply And.intro) <;> first | assumption | rfl | omega | (unfold maxLen; omega)) ?_
    refine AO.allF tab_ok (by decide) [(0, .sl Y0 specs), (1, .sl Y1 h0), (5, .bp 5 0), (20, .bool (decide (40 < (h0.length : Int))))] [(5, .box 24 [.int .i64 at0.1, .int .i64 at0.2])] (by (simp only [go_sem, hb2]) <;> (repeat' with_reducible apply And.intro) <;> first | assumption | rfl | omega | (unfold maxLen; omega)) ?_
    refine athen_n ?_
    refine AW.cond (b := (decide (40 < (h0.length : Int)))) rfl (fun hb6 => ?_) (fun hb6 => ?_)
    · rw [if_pos hb6] at h
      refine AW.seq ?_
      refine AW.ops ?_
      obtain ⟨v0_4, hv7, h⟩ := Option.bind_eq_some_iff.1 h
      refine AO.call tab_ok (by decide) rfl rfl rfl (fun _ h => h) [] [] (hc_lineallaw02_Sane hv7) rfl (by (simp only [go_sem, hb2, hb6]) <;> (repeat' with_reducible apply And.intro) <;> first | assumption | rfl | omega | (unfold maxLen; omega)) (by (simp only [go_sem, hb2, hb6]) <;> (repeat' with_reducible apply And.intro) <;> first | assumption | rfl | omega | (unfold maxLen; omega)) [(21, .bool v0_4)] [] (by (simp only [go_sem, hb2, hb6]) <;> (repeat' with_reducible apply And.intro) <;> first | assumption | rfl | omega | (unfold maxLen; omega)) ?_
      refine AO.allF tab_ok (by decide) [(6, .bool v0_4)] [] (by (simp only [go_sem, hb2, hb6]) <;> (repeat' with_reducible apply And.intro) <;> first | assumption | rfl | omega | (unfold maxLen; omega)) ?_
      refine athen_n ?_
      refine AW.ret ?_
      refine athen_r ?_
      obtain rfl := Option.some.inj h
      exact ⟨rfl, [], [], [], rfl, (by (simp only [go_sem, hb2, hb6]) <;> (repeat' with_reducible apply And.intro) <;> first | assumption | rfl | omega | (unfold maxLen; omega))⟩
    · rw [if_neg (Bool.eq_false_iff.1 hb6)] at h
      refine AW.skip ?_
      refine athen_n ?_
      refine AW.seq ?_
      refine AW.ops ?_
      refine AO.segF tab_ok 2 (by decide) [(0, .sl Y0 specs), (1, .sl Y1 h0), (5, .bp 5 0), (23, .sl Y0 specs), (24, .sl Y1 h0)] [(5, .box 24 [.int .i64 at0.1, .int .i64 at0.2])] (by (simp only [go_sem, hb2, hb6]) <;> (repeat' with_reducible apply And.intro) <;> first | assumption | rfl | omega | (unfold maxLen; omega)) ?_
      obtain ⟨v0_5, hv8, h⟩ := Option.bind_eq_some_iff.1 h
      refine AO.call tab_ok (by decide) rfl rfl rfl (fun _ h => h) [] [] (hc_history_For specs h0 hv8) rfl (by (simp only [go_sem, hb2, hb6]) <;> (repeat' with_reducible apply And.intro) <;> first | assumption | rfl | omega | (unfold maxLen; omega)) (by (simp only [go_sem, hb2, hb6]) <;> (repeat' with_reducible apply And.intro) <;> first | assumption | rfl | omega | (unfold maxLen; omega)) [(0, .sl Y0 specs), (1, .sl Y1 h0), (5, .bp 5 0), (25, .tup [.bool v0_5.1, .int .i64 v0_5.2])] [(5, .box 24 [.int .i64 at0.1, .int .i64 at0.2])] (by (simp only [go_sem, hb2, hb6]) <;> (repeat' with_reducible apply And.intro) <;> first | assumption | rfl | omega | (unfold maxLen; omega)) ?_
      refine AO.allF tab_ok (by decide) [(0, .sl Y0 specs), (1, .sl Y1 h0), (5, .bp 5 0), (7, .bool v0_5.1), (8, .int .i64 v0_5.2)] [(5, .box 24 [.int .i64 at0.1, .int .i64 at0.2])] (by (simp only [go_sem, hb2, hb6]) <;> (repeat' with_reducible apply And.intro) <;> first | assumption | rfl | omega | (unfold maxLen; omega)) ?_
      refine athen_n ?_
      refine AW.seq ?_
      refine AW.ops ?_
      refine AO.segF tab_ok 2 (by decide) [(1, .sl Y1 h0), (5, .bp 5 0), (7, .bool v0_5.1), (8, .int .i64 v0_5.2), (29, .sl Y0 specs), (30, .sl Y1 h0)] [(5, .box 24 [.int .i64 at0.1, .int .i64 at0.2])] (by (simp only [go_sem, hb2, hb6]) <;> (repeat' with_reducible apply And.intro) <;> first | assumption | rfl | omega | (unfold maxLen; omega)) ?_
      obtain ⟨v0_6, hv9, h⟩ := Option.bind_eq_some_iff.1 h
      refine AO.call tab_ok (by decide) rfl rfl rfl (fun _ h => h) [] [] (hc_linealref02_For specs h0 hv9) rfl (by (simp only [go_sem, hb2, hb6]) <;> (repeat' with_reducible apply And.intro) <;> first | assumption | rfl | omega | (unfold maxLen; omega)) (by (simp only [go_sem, hb2, hb6]) <;> (repeat' with_reducible apply And.intro) <;> first | assumption | rfl | omega | (unfold maxLen; omega)) [(1, .sl Y1 h0), (5, .bp 5 0), (7, .bool v0_5.1), (8, .int .i64 v0_5.2), (31, .tup [.bool v0_6.1, .int .i64 v0_6.2])] [(5, .box 24 [.int .i64 at0.1, .int .i64 at0.2])] (by (simp only [go_sem, hb2, hb6]) <;> (repeat' with_reducible apply And.intro) <;> first | assumption | rfl | omega | (unfold maxLen; omega)) ?_
      refine AO.allF tab_ok (by decide) [(1, .sl Y1 h0), (5, .bp 5 0), (7, .bool v0_5.1), (8, .int .i64 v0_5.2), (9, .bool v0_6.1), (10, .int .i64 v0_6.2)] [(5, .box 24 [.int .i64 at0.1, .int .i64 at0.2])] (by (simp only [go_sem, hb2, hb6]) <;> (repeat' with_reducible apply And.intro) <;> first | assumption | rfl | omega | (unfold maxLen; omega)) ?_
      refine athen_n ?_
      refine AW.seq ?_
      refine AW.ops ?_
      refine AO.segF tab_ok 5 (by decide) [(1, .sl Y1 h0), (5, .bp 5 0), (7, .bool v0_5.1), (8, .int .i64 v0_5.2), (9, .bool v0_6.1), (10, .int .i64 v0_6.2), (35, .sl Y1 h0), (37, .int .i64 at0.1), (39, .int .i64 at0.2)] [(5, .box 24 [.int .i64 at0.1, .int .i64 at0.2])] (by (simp only [go_sem, hb2, hb6]) <;> (repeat' with_reducible apply And.intro) <;> first | assumption | rfl | omega | (unfold maxLen; omega)) ?_
      obtain ⟨v0_7, hv10, h⟩ := Option.bind_eq_some_iff.1 h
      refine AO.call tab_ok (by decide) rfl rfl rfl (fun _ h => h) [] [] (hc_history_Before h0 at0.1 at0.2 hv10) rfl (by (simp only [go_sem, hb2, hb6]) <;> (repeat' with_reducible apply And.intro) <;> first | assumption | rfl | omega | (unfold maxLen; omega)) (by (simp only [go_sem, hb2, hb6]) <;> (repeat' with_reducible apply And.intro) <;> first | assumption | rfl | omega | (unfold maxLen; omega)) [(1, .sl Y1 h0), (5, .bp 5 0), (7, .bool v0_5.1), (8, .int .i64 v0_5.2), (9, .bool v0_6.1), (10, .int .i64 v0_6.2), (40, .tup [.bool v0_7.1, .int .i64 v0_7.2])] [(5, .box 24 [.int .i64 at0.1, .int .i64 at0.2])] (by (simp only [go_sem, hb2, hb6]) <;> (repeat' with_reducible apply And.intro) <;> first | assumption | rfl | omega | (unfold maxLen; omega)) ?_
      refine AO.allF tab_ok (by decide) [(1, .sl Y1 h0), (5, .bp 5 0), (7, .bool v0_5.1), (8, .int .i64 v0_5.2), (9, .bool v0_6.1), (10, .int .i64 v0_6.2), (11, .bool v0_7.1), (12, .int .i64 v0_7.2)] [(5, .box 24 [.int .i64 at0.1, .int .i64 at0.2])] (by (simp only [go_sem, hb2, hb6]) <;> (repeat' with_reducible apply And.intro) <;> first | assumption | rfl | omega | (unfold maxLen; omega)) ?_
      refine athen_n ?_
      refine AW.seq ?_
      refine AW.ops ?_
      refine AO.segF tab_ok 5 (by decide) [(1, .sl Y1 h0), (7, .bool v0_5.1), (8, .int .i64 v0_5.2), (9, .bool v0_6.1), (10, .int .i64 v0_6.2), (11, .bool v0_7.1), (12, .int .i64 v0_7.2), (44, .sl Y1 h0), (46, .int .i64 at0.1), (48, .int .i64 at0.2)] [] (by (simp only [go_sem, hb2, hb6]) <;> (repeat' with_reducible apply And.intro) <;> first | assumption | rfl | omega | (unfold maxLen; omega)) ?_
      obtain ⟨v0_8, hv11, h⟩ := Option.bind_eq_some_iff.1 h
      refine AO.call tab_ok (by decide) rfl rfl rfl (fun _ h => h) [] [] (hc_linealref02_Before h0 at0.1 at0.2 hv11) rfl (by (simp only [go_sem, hb2, hb6]) <;> (repeat' with_reducible apply And.intro) <;> first | assumption | rfl | omega | (unfold maxLen; omega)) (by (simp only [go_sem, hb2, hb6]) <;> (repeat' with_reducible apply And.intro) <;> first | assumption | rfl | omega | (unfold maxLen; omega)) [(1, .sl Y1 h0), (7, .bool v0_5.1), (8, .int .i64 v0_5.2), (9, .bool v0_6.1), (10, .int .i64 v0_6.2), (11, .bool v0_7.1), (12, .int .i64 v0_7.2), (49, .tup [.bool v0_8.1, .int .i64 v0_8.2])] [] (by (simp only [go_sem, hb2, hb6]) <;> (repeat' with_reducible apply And.intro) <;> first | assumption | rfl | omega | (unfold maxLen; omega)) ?_
      refine AO.allF tab_ok (by decide) [(1, .sl Y1 h0), (7, .bool v0_5.1), (8, .int .i64 v0_5.2), (9, .bool v0_6.1), (10, .int .i64 v0_6.2), (11, .bool v0_7.1), (12, .int .i64 v0_7.2), (13, .bool v0_8.1), (14, .int .i64 v0_8.2)] [] (by (simp only [go_sem, hb2, hb6]) <;> (repeat' with_reducible apply And.intro) <;> first | assumption | rfl | omega | (unfold maxLen; omega)) ?_
      refine athen_n ?_
      refine AW.seq ?_
      refine AW.ops ?_
      refine AO.segF tab_ok 1 (by decide) [(1, .sl Y1 h0), (7, .bool v0_5.1), (8, .int .i64 v0_5.2), (9, .bool v0_6.1), (10, .int .i64 v0_6.2), (11, .bool v0_7.1), (12, .int .i64 v0_7.2), (13, .bool v0_8.1), (14, .int .i64 v0_8.2), (52, .sl Y1 h0)] [] (by (simp only [go_sem, hb2, hb6]) <;> (repeat' with_reducible apply And.intro) <;> first | assumption | rfl | omega | (unfold maxLen; omega)) ?_
      obtain ⟨v0_9, hv12, h⟩ := Option.bind_eq_some_iff.1 h
      refine AO.call tab_ok (by decide) rfl rfl rfl (fun _ h => h) [] [] (hc_history_Valid h0 hv12) rfl (by (simp only [go_sem, hb2, hb6]) <;> (repeat' with_reducible apply And.intro) <;> first | assumption | rfl | omega | (unfold maxLen; omega)) (by (simp only [go_sem, hb2, hb6]) <;> (repeat' with_reducible apply And.intro) <;> first | assumption | rfl | omega | (unfold maxLen; omega)) [(1, .sl Y1 h0), (7, .bool v0_5.1), (8, .int .i64 v0_5.2), (9, .bool v0_6.1), (10, .int .i64 v0_6.2), (11, .bool v0_7.1), (12, .int .i64 v0_7.2), (13, .bool v0_8.1), (14, .int .i64 v0_8.2), (53, .bool v0_9)] [] (by (simp only [go_sem, hb2, hb6]) <;> (repeat' with_reducible apply And.intro) <;> first | assumption | rfl | omega | (unfold maxLen; omega)) ?_
      refine AO.segF tab_ok 1 (by decide) [(7, .bool v0_5.1), (8, .int .i64 v0_5.2), (9, .bool v0_6.1), (10, .int .i64 v0_6.2), (11, .bool v0_7.1), (12, .int .i64 v0_7.2), (13, .bool v0_8.1), (14, .int .i64 v0_8.2), (53, .bool v0_9), (54, .sl Y1 h0)] [] (by (simp only [go_sem, hb2, hb6]) <;> (repeat' with_reducible apply And.intro) <;> first | assumption | rfl | omega | (unfold maxLen; omega)) ?_
      obtain ⟨v0_10, hv13, h⟩ := Option.bind_eq_some_iff.1 h
      refine AO.call tab_ok (by decide) rfl rfl rfl (fun _ h => h) [] [] (hc_linealref02_Valid h0 hv13) rfl (by (simp only [go_sem, hb2, hb6]) <;> (repeat' with_reducible apply And.intro) <;> first | assumption | rfl | omega | (unfold maxLen; omega)) (by (simp only [go_sem, hb2, hb6]) <;> (repeat' with_reducible apply And.intro) <;> first | assumption | rfl | omega | (unfold maxLen; omega)) [(7, .bool v0_5.1), (8, .int .i64 v0_5.2), (9, .bool v0_6.1), (10, .int .i64 v0_6.2), (11, .bool v0_7.1), (12, .int .i64 v0_7.2), (13, .bool v0_8.1), (14, .int .i64 v0_8.2), (53, .bool v0_9), (55, .bool v0_10)] [] (by (simp only [go_sem, hb2, hb6]) <;> (repeat' with_reducible apply And.intro) <;> first | assumption | rfl | omega | (unfold maxLen; omega)) ?_
      refine AO.segF tab_ok 2 (by decide) [(7, .bool v0_5.1), (8, .int .i64 v0_5.2), (9, .bool v0_6.1), (10, .int .i64 v0_6.2), (11, .bool v0_7.1), (12, .int .i64 v0_7.2), (13, .bool v0_8.1), (14, .int .i64 v0_8.2), (57, .bool ((v0_9 == v0_10) != false))] [] (by (simp only [go_sem, hb2, hb6]) <;> (repeat' with_reducible apply And.intro) <;> first | assumption | rfl | omega | (unfold maxLen; omega)) ?_
      rcases Bool.eq_false_or_eq_true ((v0_9 == v0_10) != false) with hb14 | hb14
      · rw [if_pos hb14] at h
        refine AO.weaken (s' := ⟨fr [(7, .bool v0_5.1), (8, .int .i64 v0_5.2), (9, .bool v0_6.1), (10, .int .i64 v0_6.2), (11, .bool v0_7.1), (12, .int .i64 v0_7.2), (13, .bool v0_8.1), (14, .int .i64 v0_8.2), (57, .bool true)], hpGet [], gt⟩) (Wk.to (by (simp only [go_sem, hb2, hb6, hb14]) <;> (repeat' with_reducible apply And.intro) <;> first | assumption | rfl | omega | (unfold maxLen; omega))) ?_
        refine AO.segF tab_ok 5 (by decide) [(8, .int .i64 v0_5.2), (10, .int .i64 v0_6.2), (11, .bool v0_7.1), (12, .int .i64 v0_7.2), (13, .bool v0_8.1), (14, .int .i64 v0_8.2), (62, .bool ((v0_5.1 == v0_6.1) != false))] [] (by (simp only [go_sem, hb2, hb6, hb14]) <;> (repeat' with_reducible apply And.intro) <;> first | assumption | rfl | omega | (unfold maxLen; omega)) ?_
        rcases Bool.eq_false_or_eq_true ((v0_5.1 == v0_6.1) != false) with hb15 | hb15
        · rw [if_pos hb15] at h
          refine AO.weaken (s' := ⟨fr [(8, .int .i64 v0_5.2), (10, .int .i64 v0_6.2), (11, .bool v0_7.1), (12, .int .i64 v0_7.2), (13, .bool v0_8.1), (14, .int .i64 v0_8.2), (62, .bool true)], hpGet [], gt⟩) (Wk.to (by (simp only [go_sem, hb2, hb6, hb14, hb15]) <;> (repeat' with_reducible apply And.intro) <;> first | assumption | rfl | omega | (unfold maxLen; omega))) ?_
          refine AO.segF tab_ok 5 (by decide) [(11, .bool v0_7.1), (12, .int .i64 v0_7.2), (13, .bool v0_8.1), (14, .int .i64 v0_8.2), (67, .bool (decide (v0_5.2 = v0_6.2)))] [] (by (simp only [go_sem, hb2, hb6, hb14, hb15]) <;> (repeat' with_reducible apply And.intro) <;> first | assumption | rfl | omega | (unfold maxLen; omega)) ?_
          rcases Bool.eq_false_or_eq_true (decide (v0_5.2 = v0_6.2)) with hb16 | hb16
          · rw [if_pos hb16] at h
            refine AO.weaken (s' := ⟨fr [(11, .bool v0_7.1), (12, .int .i64 v0_7.2), (13, .bool v0_8.1), (14, .int .i64 v0_8.2), (67, .bool true)], hpGet [], gt⟩) (Wk.to (by (simp only [go_sem, hb2, hb6, hb14, hb15, hb16]) <;> (repeat' with_reducible apply And.intro) <;> first | assumption | rfl | omega | (unfold maxLen; omega))) ?_
            refine AO.segF tab_ok 5 (by decide) [(12, .int .i64 v0_7.2), (14, .int .i64 v0_8.2), (72, .bool ((v0_7.1 == v0_8.1) != false))] [] (by (simp only [go_sem, hb2, hb6, hb14, hb15, hb16]) <;> (repeat' with_reducible apply And.intro) <;> first | assumption | rfl | omega | (unfold maxLen; omega)) ?_
            rcases Bool.eq_false_or_eq_true ((v0_7.1 == v0_8.1) != false) with hb17 | hb17
            · rw [if_pos hb17] at h
              refine AO.weaken (s' := ⟨fr [(12, .int .i64 v0_7.2), (14, .int .i64 v0_8.2), (72, .bool true)], hpGet [], gt⟩) (Wk.to (by (simp only [go_sem, hb2, hb6, hb14, hb15, hb16, hb17]) <;> (repeat' with_reducible apply And.intro) <;> first | assumption | rfl | omega | (unfold maxLen; omega))) ?_
              refine AO.segF tab_ok 5 (by decide) [(77, .bool (decide (v0_7.2 = v0_8.2)))] [] (by (simp only [go_sem, hb2, hb6, hb14, hb15, hb16, hb17]) <;> (repeat' with_reducible apply And.intro) <;> first | assumption | rfl | omega | (unfold maxLen; omega)) ?_
              rcases Bool.eq_false_or_eq_true (decide (v0_7.2 = v0_8.2)) with hb18 | hb18
              · rw [if_pos hb18] at h
                refine AO.weaken (s' := ⟨fr [(77, .bool true)], hpGet [], gt⟩) (Wk.to (by (simp only [go_sem, hb2, hb6, hb14, hb15, hb16, hb17, hb18]) <;> (repeat' with_reducible apply And.intro) <;> first | assumption | rfl | omega | (unfold maxLen; omega))) ?_
                obtain ⟨v0_11, hv19, h⟩ := Option.bind_eq_some_iff.1 h
                refine AO.call tab_ok (by decide) rfl rfl rfl (fun _ h => ⟨fun _ => h, fun hn => absurd rfl hn⟩) [] [] (hc_lineallaw02_Sane hv19) rfl (by (simp only [go_sem, hb2, hb6, hb14, hb15, hb16, hb17, hb18]) <;> (repeat' with_reducible apply And.intro) <;> first | assumption | rfl | omega | (unfold maxLen; omega)) (by (simp only [go_sem, hb2, hb6, hb14, hb15, hb16, hb17, hb18]) <;> (repeat' with_reducible apply And.intro) <;> first | assumption | rfl | omega | (unfold maxLen; omega)) [(77, .bool true), (78, .bool v0_11)] [] (by (simp only [go_sem, hb2, hb6, hb14, hb15, hb16, hb17, hb18]) <;> (repeat' with_reducible apply And.intro) <;> first | assumption | rfl | omega | (unfold maxLen; omega)) ?_
                refine AO.allF tab_ok (by decide) [(6, .bool v0_11)] [] (by (simp only [go_sem, hb2, hb6, hb14, hb15, hb16, hb17, hb18]) <;> (repeat' with_reducible apply And.intro) <;> first | assumption | rfl | omega | (unfold maxLen; omega)) ?_
                refine athen_n ?_
                refine AW.ret ?_
                obtain rfl := Option.some.inj h
                exact ⟨rfl, [], [], [], rfl, (by (simp only [go_sem, hb2, hb6, hb14, hb15, hb16, hb17, hb18]) <;> (repeat' with_reducible apply And.intro) <;> first | assumption | rfl | omega | (unfold maxLen; omega))⟩
              · rw [if_neg (Bool.eq_false_iff.1 hb18)] at h
                refine AO.weaken (s' := ⟨fr [(77, .bool false)], hpGet [], gt⟩) (Wk.to (by (simp only [go_sem, hb2, hb6, hb14, hb15, hb16, hb17, hb18]) <;> (repeat' with_reducible apply And.intro) <;> first | assumption | rfl | omega | (unfold maxLen; omega))) ?_
                refine AO.allF tab_ok (by decide) [(6, .bool false)] [] (by (simp only [go_sem, hb2, hb6, hb14, hb15, hb16, hb17, hb18]) <;> (repeat' with_reducible apply And.intro) <;> first | assumption | rfl | omega | (unfold maxLen; omega)) ?_
                refine athen_n ?_
                refine AW.ret ?_
                obtain rfl := Option.some.inj h
                exact ⟨rfl, [], [], [], rfl, (by (simp only [go_sem, hb2, hb6, hb14, hb15, hb16, hb17, hb18]) <;> (repeat' with_reducible apply And.intro) <;> first | assumption | rfl | omega | (unfold maxLen; omega))⟩
            · rw [if_neg (Bool.eq_false_iff.1 hb17)] at h
              refine AO.weaken (s' := ⟨fr [(12, .int .i64 v0_7.2), (14, .int .i64 v0_8.2), (72, .bool false)], hpGet [], gt⟩) (Wk.to (by (simp only [go_sem, hb2, hb6, hb14, hb15, hb16, hb17]) <;> (repeat' with_reducible apply And.intro) <;> first | assumption | rfl | omega | (unfold maxLen; omega))) ?_
              refine AO.segF tab_ok 6 (by decide) [(77, .bool false), (78, .cv (undef))] [] (by (simp only [go_sem, hb2, hb6, hb14, hb15, hb16, hb17]) <;> (repeat' with_reducible apply And.intro) <;> first | assumption | rfl | omega | (unfold maxLen; omega)) ?_
              refine AO.allF tab_ok (by decide) [(6, .bool false)] [] (by (simp only [go_sem, hb2, hb6, hb14, hb15, hb16, hb17]) <;> (repeat' with_reducible apply And.intro) <;> first | assumption | rfl | omega | (unfold maxLen; omega)) ?_
              refine athen_n ?_
              refine AW.ret ?_
              obtain rfl := Option.some.inj h
              exact ⟨rfl, [], [], [], rfl, (by (simp only [go_sem, hb2, hb6, hb14, hb15, hb16, hb17]) <;> (repeat' with_reducible apply And.intro) <;> first | assumption | rfl | omega | (unfold maxLen; omega))⟩
          · rw [if_neg (Bool.eq_false_iff.1 hb16)] at h
            refine AO.weaken (s' := ⟨fr [(11, .bool v0_7.1), (12, .int .i64 v0_7.2), (13, .bool v0_8.1), (14, .int .i64 v0_8.2), (67, .bool false)], hpGet [], gt⟩) (Wk.to (by (simp only [go_sem, hb2, hb6, hb14, hb15, hb16]) <;> (repeat' with_reducible apply And.intro) <;> first | assumption | rfl | omega | (unfold maxLen; omega))) ?_
            refine AO.segF tab_ok 6 (by decide) [(14, .int .i64 v0_8.2), (72, .bool false), (73, .cv (undef))] [] (by (simp only [go_sem, hb2, hb6, hb14, hb15, hb16]) <;> (repeat' with_reducible apply And.intro) <;> first | assumption | rfl | omega | (unfold maxLen; omega)) ?_
            refine AO.allF tab_ok (by decide) [(6, .bool false)] [] (by (simp only [go_sem, hb2, hb6, hb14, hb15, hb16]) <;> (repeat' with_reducible apply And.intro) <;> first | assumption | rfl | omega | (unfold maxLen; omega)) ?_
            refine athen_n ?_
            refine AW.ret ?_
            obtain rfl := Option.some.inj h
            exact ⟨rfl, [], [], [], rfl, (by (simp only [go_sem, hb2, hb6, hb14, hb15, hb16]) <;> (repeat' with_reducible apply And.intro) <;> first | assumption | rfl | omega | (unfold maxLen; omega))⟩
        · rw [if_neg (Bool.eq_false_iff.1 hb15)] at h
          refine AO.weaken (s' := ⟨fr [(8, .int .i64 v0_5.2), (10, .int .i64 v0_6.2), (11, .bool v0_7.1), (12, .int .i64 v0_7.2), (13, .bool v0_8.1), (14, .int .i64 v0_8.2), (62, .bool false)], hpGet [], gt⟩) (Wk.to (by (simp only [go_sem, hb2, hb6, hb14, hb15]) <;> (repeat' with_reducible apply And.intro) <;> first | assumption | rfl | omega | (unfold maxLen; omega))) ?_
          refine AO.segF tab_ok 6 (by decide) [(12, .int .i64 v0_7.2), (13, .bool v0_8.1), (14, .int .i64 v0_8.2), (67, .bool false), (68, .cv (undef))] [] (by (simp only [go_sem, hb2, hb6, hb14, hb15]) <;> (repeat' with_reducible apply And.intro) <;> first | assumption | rfl | omega | (unfold maxLen; omega)) ?_
          refine AO.segF tab_ok 6 (by decide) [(72, .bool false), (73, .cv (undef)), (74, .cv (undef))] [] (by (simp only [go_sem, hb2, hb6, hb14, hb15]) <;> (repeat' with_reducible apply And.intro) <;> first | assumption | rfl | omega | (unfold maxLen; omega)) ?_
          refine AO.allF tab_ok (by decide) [(6, .bool false)] [] (by (simp only [go_sem, hb2, hb6, hb14, hb15]) <;> (repeat' with_reducible apply And.intro) <;> first | assumption | rfl | omega | (unfold maxLen; omega)) ?_
          refine athen_n ?_
          refine AW.ret ?_
          obtain rfl := Option.some.inj h
          exact ⟨rfl, [], [], [], rfl, (by (simp only [go_sem, hb2, hb6, hb14, hb15]) <;> (repeat' with_reducible apply And.intro) <;> first | assumption | rfl | omega | (unfold maxLen; omega))⟩
      · rw [if_neg (Bool.eq_false_iff.1 hb14)] at h
        refine AO.weaken (s' := ⟨fr [(7, .bool v0_5.1), (8, .int .i64 v0_5.2), (9, .bool v0_6.1), (10, .int .i64 v0_6.2), (11, .bool v0_7.1), (12, .int .i64 v0_7.2), (13, .bool v0_8.1), (14, .int .i64 v0_8.2), (57, .bool false)], hpGet [], gt⟩) (Wk.to (by (simp only [go_sem, hb2, hb6, hb14]) <;> (repeat' with_reducible apply And.intro) <;> first | assumption | rfl | omega | (unfold maxLen; omega))) ?_
        refine AO.segF tab_ok 6 (by decide) [(10, .int .i64 v0_6.2), (11, .bool v0_7.1), (12, .int .i64 v0_7.2), (13, .bool v0_8.1), (14, .int .i64 v0_8.2), (62, .bool false), (63, .cv (undef))] [] (by (simp only [go_sem, hb2, hb6, hb14]) <;> (repeat' with_reducible apply And.intro) <;> first | assumption | rfl | omega | (unfold maxLen; omega)) ?_
        refine AO.segF tab_ok 6 (by decide) [(12, .int .i64 v0_7.2), (14, .int .i64 v0_8.2), (67, .bool false), (68, .cv (undef)), (69, .cv (undef))] [] (by (simp only [go_sem, hb2, hb6, hb14]) <;> (repeat' with_reducible apply And.intro) <;> first | assumption | rfl | omega | (unfold maxLen; omega)) ?_
        refine AO.segF tab_ok 6 (by decide) [(72, .bool false), (75, .cv (undef))] [] (by (simp only [go_sem, hb2, hb6, hb14]) <;> (repeat' with_reducible apply And.intro) <;> first | assumption | rfl | omega | (unfold maxLen; omega)) ?_
        refine AO.allF tab_ok (by decide) [(6, .bool false)] [] (by (simp only [go_sem, hb2, hb6, hb14]) <;> (repeat' with_reducible apply And.intro) <;> first | assumption | rfl | omega | (unfold maxLen; omega)) ?_
        refine athen_n ?_
        refine AW.ret ?_
        obtain rfl := Option.some.inj h
        exact ⟨rfl, [], [], [], rfl, (by (simp only [go_sem, hb2, hb6, hb14]) <;> (repeat' with_reducible apply And.intro) <;> first | assumption | rfl | omega | (unfold maxLen; omega))⟩

end Go.Proofs.Ytdkdkpenmgkdcaa
