/-
  Made by wip/tool/dc.py out of the print of the program: contracts.
-/
import Derived.Test.YtlfpagicagmjgaaHp
import Derived.Test.YtlfpagicagmjgaaShh
import Derived.Test.YtlfpagicagmjgaaAvd
import Derived.Test.YtlfpagicagmjgaaKic2
import Derived.Test.YtlfpagicagmjgaaKic4
import Derived.Test.YtlfpagicagmjgaaKic5
namespace Go.Proofs.Ytlfpagicagmjgaa
open Go.RowKit

set_option linter.unusedSimpArgs false
set_option linter.unusedVariables false
set_option linter.constructorNameAsVariable false

set_option maxRecDepth 100000
set_option maxHeartbeats 2000000

theorem hc_linealref02_search_from_2F (slf : (List Int) → Bool → (List (Int × Int × (List (List Int)) × (List (List Int)))) → (List (Int × Int × Int × Int × Int × Int)) → Bool → Int → (List Int) → Option (Bool × Int × (List Int))) (hc_slf : ∀ (l : List Int) (one : Bool) (s : List (Int × Int × (List (List Int)) × (List (List Int)))) (s_2 : List (Int × Int × Int × Int × Int × Int)) (s_3 : Bool) (s_4 : Int) (s_5 : List Int) {r : Bool × Int × (List Int)}, slf l one s s_2 s_3 s_4 s_5 = some r → HC Try.prog 88 [(1000, .box 85 [.sl Y0 s, .sl Y1 s_2, .bool s_3, .int .i64 s_4, .own 1001]), (1001, .arr 3 (.int .i64) s_5)] [.bp 1000 0, .sl (.int .i64) l, .bool one] [(1000, .box 85 [.sl Y0 s, .sl Y1 s_2, .bool r.1, .int .i64 r.2.1, .own 2000]), (2000, .arr 3 (.int .i64) r.2.2)] (.tup [])) (l : List Int) (one : Bool) (s : List (Int × Int × (List (List Int)) × (List (List Int)))) (s_2 : List (Int × Int × Int × Int × Int × Int)) (s_3 : Bool) (s_4 : Int) (s_5 : List Int) {r : Bool × Int × (List Int)} (h : linealref02_search_from_2F slf l one s s_2 s_3 s_4 s_5 = some r) : HC Try.prog 88 [(1000, .box 85 [.sl Y0 s, .sl Y1 s_2, .bool s_3, .int .i64 s_4, .own 1001]), (1001, .arr 3 (.int .i64) s_5)] [.bp 1000 0, .sl (.int .i64) l, .bool one] [(1000, .box 85 [.sl Y0 s, .sl Y1 s_2, .bool r.1, .int .i64 r.2.1, .own 2000]), (2000, .arr 3 (.int .i64) r.2.2)] (.tup []) := by
  unfold linealref02_search_from_2F at h
  refine zH Try.func88 [] 107 ?_
  refine AW.have2 (fun b2_2 : Int × (List Int) => linealref02_search_from_2_k1 slf l one s s_2 s_3 b2_2 = some r) (fun b2_2 => ⟨fr [(0, .bp 1000 0), (1, .sl (.int .i64) l), (2, .bool one), (6, .int .i64 0)], hpGet [(22, .arr 3 (.int .i64) b2_2.2), (1000, .box 85 [.sl Y0 s, .sl Y1 s_2, .bool s_3, .int .i64 b2_2.1, .own 22])], gt⟩) (fun b2_2 h => ?_) (fun hk_linealref02_search_from_2_k1 => ?_)
  · unfold linealref02_search_from_2_k1 at h
    refine AW.block ?_
    obtain ⟨rv5, hw1, ho2⟩ := Option.bind_eq_some_iff.1 h
    refine AW.loopO (linealref02_search_from_2_b1 slf l s s_2) (fun st1 => ⟨fr [(0, .bp 1000 0), (1, .sl (.int .i64) l), (2, .bool st1.2.2.2.1), (6, .int .i64 st1.2.2.2.2)], hpGet [(22, .arr 3 (.int .i64) st1.2.2.1), (1000, .box 85 [.sl Y0 s, .sl Y1 s_2, .bool st1.1, .int .i64 st1.2.1, .own 22])], gt⟩) (s_3, b2_2.1, b2_2.2, one, 0) hw1 (zL [] [] []) ?_
    intro st1 x4 h hd3
    unfold linealref02_search_from_2_b1 at h
    refine AW.have1 (fun b3 : Bool => linealref02_search_from_2_k3 slf l s s_2 st1 b3 = some x4) (fun b3 => ⟨fr [(0, .bp 1000 0), (1, .sl (.int .i64) l), (2, .bool b3), (6, .int .i64 st1.2.2.2.2)], hpGet [(22, .arr 3 (.int .i64) st1.2.2.1), (1000, .box 85 [.sl Y0 s, .sl Y1 s_2, .bool st1.1, .int .i64 st1.2.1, .own 22])], gt⟩) (fun b3 h => ?_) (fun hk_linealref02_search_from_2_k3 => ?_)
    · unfold linealref02_search_from_2_k3 at h
      refine AW.seq ?_
      refine AW.block ?_
      refine zo ?_
      obtain ⟨c6, h⟩ := ck_some.1 h
      obtain ⟨c7, h⟩ := ck_some.1 h
      refine zB [(0, .bp 1000 0), (1, .sl (.int .i64) l), (2, .bool b3), (6, .int .i64 st1.2.2.2.2), (7, .own 57)] [(22, .arr 3 (.int .i64) st1.2.2.1), (57, .arr 3 (.int .i64) (l ++ [st1.2.2.2.2])), (1000, .box 85 [.sl Y0 s, .sl Y1 s_2, .bool st1.1, .int .i64 st1.2.1, .own 22])] ?_
      refine AW.seq ?_
      refine AW.draw tab_ok mixed_ok [] [] (by decide) (lex_fast (by kernel_rfl)) ?_
      refine adops_cut 2 (fun K' hK8 => ?_)
      try dsimp only [List.drop_succ_cons, List.drop_zero, List.take_succ_cons, List.take_zero]
      simp only [go_sem]
      repeat (with_reducible refine And.intro (by first | assumption | rfl | omega | trivial | (unfold maxLen; omega)) ?_)
      refine hK8 _ ?_
      obtain ⟨v0_2, hv9, h⟩ := Option.bind_eq_some_iff.1 h
      refine adops.call (by first | trivial | rfl) rfl rfl rfl (fun _ h => h) [] [] (hc_linealref02_has l st1.2.2.2.2 hv9) rfl (by (simp only [go_sem]) <;> (with_reducible and_intros) <;> first | assumption | rfl | omega | (unfold maxLen; omega)) (by (simp only [go_sem]) <;> (with_reducible and_intros) <;> first | assumption | rfl | omega | (unfold maxLen; omega)) rfl ?_
      refine adops_cut 2 (fun K' hK10 => ?_)
      try dsimp only [List.drop_succ_cons, List.drop_zero, List.take_succ_cons, List.take_zero]
      simp only [go_sem]
      repeat (with_reducible refine And.intro (by first | assumption | rfl | omega | trivial | (unfold maxLen; omega)) ?_)
      refine hK10 _ ?_
      rcases zI h with ⟨hb11, h⟩ | ⟨hb11, h⟩
      ·
        simp only [hb11]
        refine adops_cut 6 (fun K' hK12 => ?_)
        try dsimp only [List.drop_succ_cons, List.drop_zero, List.take_succ_cons, List.take_zero]
        simp only [go_sem, hb11]
        repeat (with_reducible refine And.intro (by first | assumption | rfl | omega | trivial | (unfold maxLen; omega)) ?_)
        refine hK12 _ ?_
        refine adops_cut 3 (fun K' hK13 => ?_)
        try dsimp only [List.drop_succ_cons, List.drop_zero, List.take_succ_cons, List.take_zero]
        simp only [go_sem, hb11]
        repeat (with_reducible refine And.intro (by first | assumption | rfl | omega | trivial | (unfold maxLen; omega)) ?_)
        refine hK13 _ ?_
        obtain ⟨v0_3, hv14, h⟩ := Option.bind_eq_some_iff.1 h
        refine adops.call (by first | trivial | rfl) rfl rfl rfl (fun _ h => ⟨fun _ => h, fun hn => absurd rfl hn⟩) [57] [] (hc_linealref02_allows s s_2 (l ++ [st1.2.2.2.2]) hv14) rfl (by (simp only [go_sem, hb11]) <;> (with_reducible and_intros) <;> first | assumption | rfl | omega | (unfold maxLen; omega)) (by (simp only [go_sem, hb11]) <;> (with_reducible and_intros) <;> first | assumption | rfl | omega | (unfold maxLen; omega)) rfl ?_
        refine adops_cut 2 (fun K' hK15 => ?_)
        try dsimp only [List.drop_succ_cons, List.drop_zero, List.take_succ_cons, List.take_zero]
        simp only [go_sem, hb11]
        repeat (with_reducible refine And.intro (by first | assumption | rfl | omega | trivial | (unfold maxLen; omega)) ?_)
        refine hK15 _ ?_
        rcases zI h with ⟨hb16, h⟩ | ⟨hb16, h⟩
        ·
          simp only [hb16]
          refine adops_cut 5 (fun K' hK17 => ?_)
          try dsimp only [List.drop_succ_cons, List.drop_zero, List.take_succ_cons, List.take_zero]
          simp only [go_sem, hb11, hb16]
          repeat (with_reducible refine And.intro (by first | assumption | rfl | omega | trivial | (unfold maxLen; omega)) ?_)
          refine hK17 _ ?_
          rcases zI h with ⟨hb18, h⟩ | ⟨hb18, h⟩
          ·
            simp only [hb18]
            refine adops_cut 5 (fun K' hK19 => ?_)
            try dsimp only [List.drop_succ_cons, List.drop_zero, List.take_succ_cons, List.take_zero]
            simp only [go_sem, hb11, hb16, hb18]
            repeat (with_reducible refine And.intro (by first | assumption | rfl | omega | trivial | (unfold maxLen; omega)) ?_)
            refine hK19 _ ?_
            obtain ⟨v0_4, hv20, h⟩ := Option.bind_eq_some_iff.1 h
            refine adops.call (by first | trivial | rfl) rfl rfl rfl (fun _ h => ⟨fun _ => h, fun hn => absurd rfl hn⟩) [57] [] (hc_linealref02_keepsThreads s_2 (l ++ [st1.2.2.2.2]) hv20) rfl (by (simp only [go_sem, hb11, hb16, hb18]) <;> (with_reducible and_intros) <;> first | assumption | rfl | omega | (unfold maxLen; omega)) (by (simp only [go_sem, hb11, hb16, hb18]) <;> (with_reducible and_intros) <;> first | assumption | rfl | omega | (unfold maxLen; omega)) rfl ?_
            refine adops_cut 2 (fun K' hK21 => ?_)
            try dsimp only [List.drop_succ_cons, List.drop_zero, List.take_succ_cons, List.take_zero]
            simp only [go_sem, hb11, hb16, hb18]
            repeat (with_reducible refine And.intro (by first | assumption | rfl | omega | trivial | (unfold maxLen; omega)) ?_)
            refine hK21 _ ?_
            rcases zI h with ⟨hb22, h⟩ | ⟨hb22, h⟩
            ·
              simp only [hb22]
              refine adops_cut 4 (fun K' hK23 => ?_)
              try dsimp only [List.drop_succ_cons, List.drop_zero, List.take_succ_cons, List.take_zero]
              simp only [go_sem, hb11, hb16, hb18, hb22]
              repeat (with_reducible refine And.intro (by first | assumption | rfl | omega | trivial | (unfold maxLen; omega)) ?_)
              refine hK23 _ ?_
              refine adops_cut 4 (fun K' hK24 => ?_)
              try dsimp only [List.drop_succ_cons, List.drop_zero, List.take_succ_cons, List.take_zero]
              simp only [go_sem, hb11, hb16, hb18, hb22]
              repeat (with_reducible refine And.intro (by first | assumption | rfl | omega | trivial | (unfold maxLen; omega)) ?_)
              refine hK24 _ ?_
              refine adops_cut 4 (fun K' hK25 => ?_)
              try dsimp only [List.drop_succ_cons, List.drop_zero, List.take_succ_cons, List.take_zero]
              simp only [go_sem, hb11, hb16, hb18, hb22]
              repeat (with_reducible refine And.intro (by first | assumption | rfl | omega | trivial | (unfold maxLen; omega)) ?_)
              refine hK25 _ ?_
              refine adops_cut 3 (fun K' hK26 => ?_)
              try dsimp only [List.drop_succ_cons, List.drop_zero, List.take_succ_cons, List.take_zero]
              simp only [go_sem, hb11, hb16, hb18, hb22]
              repeat (with_reducible refine And.intro (by first | assumption | rfl | omega | trivial | (unfold maxLen; omega)) ?_)
              refine hK26 _ ?_
              refine adops_nil ?_
              refine athen_n ?_
              refine zV [(0, .bp 1000 0), (1, .sl (.int .i64) l), (2, .bool b3), (6, .int .i64 st1.2.2.2.2), (7, .own 57), (102, .bool true)] [(22, .arr 3 (.int .i64) st1.2.2.1), (57, .arr 3 (.int .i64) (l ++ [st1.2.2.2.2])), (1000, .box 85 [.sl Y0 s, .sl Y1 s_2, .bool true, .int .i64 st1.2.1, .own 22])] gt ?_
              refine AW.cond (b := true) rfl (fun _ => ?_) (fun hb27 => by cases hb27)
              refine AW.ops ?_
              refine zS 3 [(0, .bp 1000 0), (1, .sl (.int .i64) l), (2, .bool b3), (6, .int .i64 st1.2.2.2.2), (103, .bp 1000 0), (104, .own 57), (105, .bool b3)] [(22, .arr 3 (.int .i64) st1.2.2.1), (57, .arr 3 (.int .i64) (l ++ [st1.2.2.2.2])), (1000, .box 85 [.sl Y0 s, .sl Y1 s_2, .bool true, .int .i64 st1.2.1, .own 22])] ?_
              obtain ⟨v0_5, hv28, h⟩ := Option.bind_eq_some_iff.1 h
              refine zC [57] [(1000, 1000), (1001, 22)] (hc_slf (l ++ [st1.2.2.2.2]) b3 s s_2 true st1.2.1 st1.2.2.1 hv28) [(0, .bp 1000 0), (1, .sl (.int .i64) l), (2, .bool b3), (6, .int .i64 st1.2.2.2.2)] [(1000, .box 85 [.sl Y0 s, .sl Y1 s_2, .bool v0_5.1, .int .i64 v0_5.2.1, .own 116000]), (116000, .arr 3 (.int .i64) v0_5.2.2)] ?_
              refine zA [(0, .bp 1000 0), (1, .sl (.int .i64) l), (2, .bool b3), (6, .int .i64 st1.2.2.2.2)] [(1000, .box 85 [.sl Y0 s, .sl Y1 s_2, .bool v0_5.1, .int .i64 v0_5.2.1, .own 116000]), (116000, .arr 3 (.int .i64) v0_5.2.2)] ?_
              refine ablock_n ?_
              refine athen_n ?_
              refine AW.ops ?_
              obtain ⟨c29, h⟩ := ck_some.1 h
              refine zA [(0, .bp 1000 0), (1, .sl (.int .i64) l), (2, .bool b3), (6, .int .i64 (st1.2.2.2.2 + 1))] [(1000, .box 85 [.sl Y0 s, .sl Y1 s_2, .bool v0_5.1, .int .i64 v0_5.2.1, .own 116000]), (116000, .arr 3 (.int .i64) v0_5.2.2)] ?_
              obtain rfl := Option.some.inj h
              exact ⟨_, rfl, zL [] [] [(22, 116000)]⟩
            ·
              simp only [hb22]
              refine adops_cut 6 (fun K' hK30 => ?_)
              try dsimp only [List.drop_succ_cons, List.drop_zero, List.take_succ_cons, List.take_zero]
              simp only [go_sem, hb11, hb16, hb18, hb22]
              repeat (with_reducible refine And.intro (by first | assumption | rfl | omega | trivial | (unfold maxLen; omega)) ?_)
              refine hK30 _ ?_
              refine adops_cut 4 (fun K' hK31 => ?_)
              try dsimp only [List.drop_succ_cons, List.drop_zero, List.take_succ_cons, List.take_zero]
              simp only [go_sem, hb11, hb16, hb18, hb22]
              repeat (with_reducible refine And.intro (by first | assumption | rfl | omega | trivial | (unfold maxLen; omega)) ?_)
              refine hK31 _ ?_
              refine adops_cut 5 (fun K' hK32 => ?_)
              try dsimp only [List.drop_succ_cons, List.drop_zero, List.take_succ_cons, List.take_zero]
              simp only [go_sem, hb11, hb16, hb18, hb22]
              repeat (with_reducible refine And.intro (by first | assumption | rfl | omega | trivial | (unfold maxLen; omega)) ?_)
              refine hK32 _ ?_
              refine adops_nil ?_
              refine athen_n ?_
              refine zV [(0, .bp 1000 0), (1, .sl (.int .i64) l), (2, .bool b3), (6, .int .i64 st1.2.2.2.2), (7, .own 57), (102, .bool false)] [(22, .arr 3 (.int .i64) st1.2.2.1), (57, .arr 3 (.int .i64) (l ++ [st1.2.2.2.2])), (1000, .box 85 [.sl Y0 s, .sl Y1 s_2, .bool true, .int .i64 st1.2.1, .own 22])] gt ?_
              refine AW.cond (b := false) rfl (fun hb33 => by cases hb33) (fun _ => ?_)
              refine zm ?_
              refine athen_n ?_
              refine AW.ops ?_
              obtain ⟨c34, h⟩ := ck_some.1 h
              refine zA [(0, .bp 1000 0), (1, .sl (.int .i64) l), (2, .bool b3), (6, .int .i64 (st1.2.2.2.2 + 1))] [(22, .arr 3 (.int .i64) st1.2.2.1), (1000, .box 85 [.sl Y0 s, .sl Y1 s_2, .bool true, .int .i64 st1.2.1, .own 22])] ?_
              obtain rfl := Option.some.inj h
              exact ⟨_, rfl, zL [] [] []⟩
          ·
            simp only [hb18]
            refine adops_cut 4 (fun K' hK35 => ?_)
            try dsimp only [List.drop_succ_cons, List.drop_zero, List.take_succ_cons, List.take_zero]
            simp only [go_sem, hb11, hb16, hb18]
            repeat (with_reducible refine And.intro (by first | assumption | rfl | omega | trivial | (unfold maxLen; omega)) ?_)
            refine hK35 _ ?_
            refine adops_cut 6 (fun K' hK36 => ?_)
            try dsimp only [List.drop_succ_cons, List.drop_zero, List.take_succ_cons, List.take_zero]
            simp only [go_sem, hb11, hb16, hb18]
            repeat (with_reducible refine And.intro (by first | assumption | rfl | omega | trivial | (unfold maxLen; omega)) ?_)
            refine hK36 _ ?_
            refine adops_cut 6 (fun K' hK37 => ?_)
            try dsimp only [List.drop_succ_cons, List.drop_zero, List.take_succ_cons, List.take_zero]
            simp only [go_sem, hb11, hb16, hb18]
            repeat (with_reducible refine And.intro (by first | assumption | rfl | omega | trivial | (unfold maxLen; omega)) ?_)
            refine hK37 _ ?_
            refine adops_cut 3 (fun K' hK38 => ?_)
            try dsimp only [List.drop_succ_cons, List.drop_zero, List.take_succ_cons, List.take_zero]
            simp only [go_sem, hb11, hb16, hb18]
            repeat (with_reducible refine And.intro (by first | assumption | rfl | omega | trivial | (unfold maxLen; omega)) ?_)
            refine hK38 _ ?_
            obtain ⟨v0_6, hv39, h⟩ := Option.bind_eq_some_iff.1 h
            refine adops.call (by first | trivial | rfl) rfl rfl rfl (fun _ h => ⟨fun _ => h, fun hn => absurd rfl hn⟩) [57] [] (hc_linealref02_keepsTime s_2 (l ++ [st1.2.2.2.2]) hv39) rfl (by (simp only [go_sem, hb11, hb16, hb18]) <;> (with_reducible and_intros) <;> first | assumption | rfl | omega | (unfold maxLen; omega)) (by (simp only [go_sem, hb11, hb16, hb18]) <;> (with_reducible and_intros) <;> first | assumption | rfl | omega | (unfold maxLen; omega)) rfl ?_
            refine adops_cut 3 (fun K' hK40 => ?_)
            try dsimp only [List.drop_succ_cons, List.drop_zero, List.take_succ_cons, List.take_zero]
            simp only [go_sem, hb11, hb16, hb18]
            repeat (with_reducible refine And.intro (by first | assumption | rfl | omega | trivial | (unfold maxLen; omega)) ?_)
            refine hK40 _ ?_
            refine adops_nil ?_
            refine athen_n ?_
            refine zV [(0, .bp 1000 0), (1, .sl (.int .i64) l), (2, .bool b3), (6, .int .i64 st1.2.2.2.2), (7, .own 57), (102, .bool v0_6)] [(22, .arr 3 (.int .i64) st1.2.2.1), (57, .arr 3 (.int .i64) (l ++ [st1.2.2.2.2])), (1000, .box 85 [.sl Y0 s, .sl Y1 s_2, .bool false, .int .i64 st1.2.1, .own 22])] gt ?_
            refine zQ h (fun hb41 h => ?_) (fun hb41 h => ?_)
            ·
              refine AW.ops ?_
              refine zS 3 [(0, .bp 1000 0), (1, .sl (.int .i64) l), (2, .bool b3), (6, .int .i64 st1.2.2.2.2), (103, .bp 1000 0), (104, .own 57), (105, .bool b3)] [(22, .arr 3 (.int .i64) st1.2.2.1), (57, .arr 3 (.int .i64) (l ++ [st1.2.2.2.2])), (1000, .box 85 [.sl Y0 s, .sl Y1 s_2, .bool false, .int .i64 st1.2.1, .own 22])] ?_
              obtain ⟨v0_7, hv42, h⟩ := Option.bind_eq_some_iff.1 h
              refine zC [57] [(1000, 1000), (1001, 22)] (hc_slf (l ++ [st1.2.2.2.2]) b3 s s_2 false st1.2.1 st1.2.2.1 hv42) [(0, .bp 1000 0), (1, .sl (.int .i64) l), (2, .bool b3), (6, .int .i64 st1.2.2.2.2)] [(1000, .box 85 [.sl Y0 s, .sl Y1 s_2, .bool v0_7.1, .int .i64 v0_7.2.1, .own 116000]), (116000, .arr 3 (.int .i64) v0_7.2.2)] ?_
              refine zA [(0, .bp 1000 0), (1, .sl (.int .i64) l), (2, .bool b3), (6, .int .i64 st1.2.2.2.2)] [(1000, .box 85 [.sl Y0 s, .sl Y1 s_2, .bool v0_7.1, .int .i64 v0_7.2.1, .own 116000]), (116000, .arr 3 (.int .i64) v0_7.2.2)] ?_
              refine ablock_n ?_
              refine athen_n ?_
              refine AW.ops ?_
              obtain ⟨c43, h⟩ := ck_some.1 h
              refine zA [(0, .bp 1000 0), (1, .sl (.int .i64) l), (2, .bool b3), (6, .int .i64 (st1.2.2.2.2 + 1))] [(1000, .box 85 [.sl Y0 s, .sl Y1 s_2, .bool v0_7.1, .int .i64 v0_7.2.1, .own 116000]), (116000, .arr 3 (.int .i64) v0_7.2.2)] ?_
              obtain rfl := Option.some.inj h
              exact ⟨_, rfl, zL [] [] [(22, 116000)]⟩
            ·
              refine zm ?_
              refine athen_n ?_
              refine AW.ops ?_
              obtain ⟨c44, h⟩ := ck_some.1 h
              refine zA [(0, .bp 1000 0), (1, .sl (.int .i64) l), (2, .bool b3), (6, .int .i64 (st1.2.2.2.2 + 1))] [(22, .arr 3 (.int .i64) st1.2.2.1), (1000, .box 85 [.sl Y0 s, .sl Y1 s_2, .bool false, .int .i64 st1.2.1, .own 22])] ?_
              obtain rfl := Option.some.inj h
              exact ⟨_, rfl, zL [] [] []⟩
        ·
          simp only [hb16]
          refine adops_cut 4 (fun K' hK45 => ?_)
          try dsimp only [List.drop_succ_cons, List.drop_zero, List.take_succ_cons, List.take_zero]
          simp only [go_sem, hb11, hb16]
          repeat (with_reducible refine And.intro (by first | assumption | rfl | omega | trivial | (unfold maxLen; omega)) ?_)
          refine hK45 _ ?_
          refine adops_cut 4 (fun K' hK46 => ?_)
          try dsimp only [List.drop_succ_cons, List.drop_zero, List.take_succ_cons, List.take_zero]
          simp only [go_sem, hb11, hb16]
          repeat (with_reducible refine And.intro (by first | assumption | rfl | omega | trivial | (unfold maxLen; omega)) ?_)
          refine hK46 _ ?_
          refine adops_cut 4 (fun K' hK47 => ?_)
          try dsimp only [List.drop_succ_cons, List.drop_zero, List.take_succ_cons, List.take_zero]
          simp only [go_sem, hb11, hb16]
          repeat (with_reducible refine And.intro (by first | assumption | rfl | omega | trivial | (unfold maxLen; omega)) ?_)
          refine hK47 _ ?_
          refine adops_cut 4 (fun K' hK48 => ?_)
          try dsimp only [List.drop_succ_cons, List.drop_zero, List.take_succ_cons, List.take_zero]
          simp only [go_sem, hb11, hb16]
          repeat (with_reducible refine And.intro (by first | assumption | rfl | omega | trivial | (unfold maxLen; omega)) ?_)
          refine hK48 _ ?_
          refine adops_cut 4 (fun K' hK49 => ?_)
          try dsimp only [List.drop_succ_cons, List.drop_zero, List.take_succ_cons, List.take_zero]
          simp only [go_sem, hb11, hb16]
          repeat (with_reducible refine And.intro (by first | assumption | rfl | omega | trivial | (unfold maxLen; omega)) ?_)
          refine hK49 _ ?_
          refine adops_cut 4 (fun K' hK50 => ?_)
          try dsimp only [List.drop_succ_cons, List.drop_zero, List.take_succ_cons, List.take_zero]
          simp only [go_sem, hb11, hb16]
          repeat (with_reducible refine And.intro (by first | assumption | rfl | omega | trivial | (unfold maxLen; omega)) ?_)
          refine hK50 _ ?_
          refine adops_cut 4 (fun K' hK51 => ?_)
          try dsimp only [List.drop_succ_cons, List.drop_zero, List.take_succ_cons, List.take_zero]
          simp only [go_sem, hb11, hb16]
          repeat (with_reducible refine And.intro (by first | assumption | rfl | omega | trivial | (unfold maxLen; omega)) ?_)
          refine hK51 _ ?_
          refine adops_nil ?_
          refine athen_n ?_
          refine zV [(0, .bp 1000 0), (1, .sl (.int .i64) l), (2, .bool b3), (6, .int .i64 st1.2.2.2.2), (7, .own 57), (102, .bool false)] [(22, .arr 3 (.int .i64) st1.2.2.1), (57, .arr 3 (.int .i64) (l ++ [st1.2.2.2.2])), (1000, .box 85 [.sl Y0 s, .sl Y1 s_2, .bool st1.1, .int .i64 st1.2.1, .own 22])] gt ?_
          refine AW.cond (b := false) rfl (fun hb52 => by cases hb52) (fun _ => ?_)
          refine zm ?_
          refine athen_n ?_
          refine AW.ops ?_
          obtain ⟨c53, h⟩ := ck_some.1 h
          refine zA [(0, .bp 1000 0), (1, .sl (.int .i64) l), (2, .bool b3), (6, .int .i64 (st1.2.2.2.2 + 1))] [(22, .arr 3 (.int .i64) st1.2.2.1), (1000, .box 85 [.sl Y0 s, .sl Y1 s_2, .bool st1.1, .int .i64 st1.2.1, .own 22])] ?_
          obtain rfl := Option.some.inj h
          exact ⟨_, rfl, zL [] [] []⟩
      ·
        simp only [hb11]
        refine adops_cut 4 (fun K' hK54 => ?_)
        try dsimp only [List.drop_succ_cons, List.drop_zero, List.take_succ_cons, List.take_zero]
        simp only [go_sem, hb11]
        repeat (with_reducible refine And.intro (by first | assumption | rfl | omega | trivial | (unfold maxLen; omega)) ?_)
        refine hK54 _ ?_
        refine adops_cut 4 (fun K' hK55 => ?_)
        try dsimp only [List.drop_succ_cons, List.drop_zero, List.take_succ_cons, List.take_zero]
        simp only [go_sem, hb11]
        repeat (with_reducible refine And.intro (by first | assumption | rfl | omega | trivial | (unfold maxLen; omega)) ?_)
        refine hK55 _ ?_
        refine adops_cut 6 (fun K' hK56 => ?_)
        try dsimp only [List.drop_succ_cons, List.drop_zero, List.take_succ_cons, List.take_zero]
        simp only [go_sem, hb11]
        repeat (with_reducible refine And.intro (by first | assumption | rfl | omega | trivial | (unfold maxLen; omega)) ?_)
        refine hK56 _ ?_
        refine adops_cut 4 (fun K' hK57 => ?_)
        try dsimp only [List.drop_succ_cons, List.drop_zero, List.take_succ_cons, List.take_zero]
        simp only [go_sem, hb11]
        repeat (with_reducible refine And.intro (by first | assumption | rfl | omega | trivial | (unfold maxLen; omega)) ?_)
        refine hK57 _ ?_
        refine adops_cut 4 (fun K' hK58 => ?_)
        try dsimp only [List.drop_succ_cons, List.drop_zero, List.take_succ_cons, List.take_zero]
        simp only [go_sem, hb11]
        repeat (with_reducible refine And.intro (by first | assumption | rfl | omega | trivial | (unfold maxLen; omega)) ?_)
        refine hK58 _ ?_
        refine adops_cut 4 (fun K' hK59 => ?_)
        try dsimp only [List.drop_succ_cons, List.drop_zero, List.take_succ_cons, List.take_zero]
        simp only [go_sem, hb11]
        repeat (with_reducible refine And.intro (by first | assumption | rfl | omega | trivial | (unfold maxLen; omega)) ?_)
        refine hK59 _ ?_
        refine adops_cut 4 (fun K' hK60 => ?_)
        try dsimp only [List.drop_succ_cons, List.drop_zero, List.take_succ_cons, List.take_zero]
        simp only [go_sem, hb11]
        repeat (with_reducible refine And.intro (by first | assumption | rfl | omega | trivial | (unfold maxLen; omega)) ?_)
        refine hK60 _ ?_
        refine adops_cut 4 (fun K' hK61 => ?_)
        try dsimp only [List.drop_succ_cons, List.drop_zero, List.take_succ_cons, List.take_zero]
        simp only [go_sem, hb11]
        repeat (with_reducible refine And.intro (by first | assumption | rfl | omega | trivial | (unfold maxLen; omega)) ?_)
        refine hK61 _ ?_
        refine adops_cut 4 (fun K' hK62 => ?_)
        try dsimp only [List.drop_succ_cons, List.drop_zero, List.take_succ_cons, List.take_zero]
        simp only [go_sem, hb11]
        repeat (with_reducible refine And.intro (by first | assumption | rfl | omega | trivial | (unfold maxLen; omega)) ?_)
        refine hK62 _ ?_
        refine adops_cut 2 (fun K' hK63 => ?_)
        try dsimp only [List.drop_succ_cons, List.drop_zero, List.take_succ_cons, List.take_zero]
        simp only [go_sem, hb11]
        repeat (with_reducible refine And.intro (by first | assumption | rfl | omega | trivial | (unfold maxLen; omega)) ?_)
        refine hK63 _ ?_
        refine adops_nil ?_
        refine athen_n ?_
        refine zV [(0, .bp 1000 0), (1, .sl (.int .i64) l), (2, .bool b3), (6, .int .i64 st1.2.2.2.2), (7, .own 57), (102, .bool false)] [(22, .arr 3 (.int .i64) st1.2.2.1), (57, .arr 3 (.int .i64) (l ++ [st1.2.2.2.2])), (1000, .box 85 [.sl Y0 s, .sl Y1 s_2, .bool st1.1, .int .i64 st1.2.1, .own 22])] gt ?_
        refine AW.cond (b := false) rfl (fun hb64 => by cases hb64) (fun _ => ?_)
        refine zm ?_
        refine athen_n ?_
        refine AW.ops ?_
        obtain ⟨c65, h⟩ := ck_some.1 h
        refine zA [(0, .bp 1000 0), (1, .sl (.int .i64) l), (2, .bool b3), (6, .int .i64 (st1.2.2.2.2 + 1))] [(22, .arr 3 (.int .i64) st1.2.2.1), (1000, .box 85 [.sl Y0 s, .sl Y1 s_2, .bool st1.1, .int .i64 st1.2.1, .own 22])] ?_
        obtain rfl := Option.some.inj h
        exact ⟨_, rfl, zL [] [] []⟩
    · refine AW.seq ?_
      refine zo ?_
      refine zS 8 [(0, .bp 1000 0), (1, .sl (.int .i64) l), (2, .bool st1.2.2.2.1), (6, .int .i64 st1.2.2.2.2), (39, .bool (decide (st1.2.2.2.2 < (s_2.length : Int))))] [(22, .arr 3 (.int .i64) st1.2.2.1), (1000, .box 85 [.sl Y0 s, .sl Y1 s_2, .bool st1.1, .int .i64 st1.2.1, .own 22])] ?_
      rcases zI h with ⟨hb66, h⟩ | ⟨hb66, h⟩
      ·
        refine zT [(0, .bp 1000 0), (1, .sl (.int .i64) l), (2, .bool st1.2.2.2.1), (6, .int .i64 st1.2.2.2.2), (39, .bool true)] [(22, .arr 3 (.int .i64) st1.2.2.1), (1000, .box 85 [.sl Y0 s, .sl Y1 s_2, .bool st1.1, .int .i64 st1.2.1, .own 22])] gt ?_
        refine zS 2 [(0, .bp 1000 0), (1, .sl (.int .i64) l), (2, .bool st1.2.2.2.1), (6, .int .i64 st1.2.2.2.2), (39, .bool true), (41, .bool st1.2.2.2.1)] [(22, .arr 3 (.int .i64) st1.2.2.1), (1000, .box 85 [.sl Y0 s, .sl Y1 s_2, .bool st1.1, .int .i64 st1.2.1, .own 22])] ?_
        rcases zI h with ⟨hb67, h⟩ | ⟨hb67, h⟩
        ·
          refine zT [(0, .bp 1000 0), (1, .sl (.int .i64) l), (2, .bool true), (6, .int .i64 st1.2.2.2.2), (39, .bool true), (41, .bool true)] [(22, .arr 3 (.int .i64) st1.2.2.1), (1000, .box 85 [.sl Y0 s, .sl Y1 s_2, .bool st1.1, .int .i64 st1.2.1, .own 22])] gt ?_
          refine zB [(0, .bp 1000 0), (1, .sl (.int .i64) l), (2, .bool true), (6, .int .i64 st1.2.2.2.2), (49, .bool (!(decide (0 < st1.2.1))))] [(22, .arr 3 (.int .i64) st1.2.2.1), (1000, .box 85 [.sl Y0 s, .sl Y1 s_2, .bool st1.1, .int .i64 st1.2.1, .own 22])] ?_
          refine zQ h (fun hb68 h => ?_) (fun hb68 h => ?_)
          ·
            refine zk ?_
            exact AW.weaken (zL [] [] []) (hk_linealref02_search_from_2_k3 _ h)
          ·
            refine AW.exit ?_
            refine athen_e ?_
            obtain rfl := Option.some.inj h
            rw [← hd3 _ rfl] at ho2
            have h := ho2
            refine athen_e ?_
            refine ablock_s ?_
            obtain rfl := Option.some.inj h
            exact zR [] [] [(2000, 22)]
        ·
          refine zT [(0, .bp 1000 0), (1, .sl (.int .i64) l), (2, .bool false), (6, .int .i64 st1.2.2.2.2), (39, .bool true), (41, .bool false)] [(22, .arr 3 (.int .i64) st1.2.2.1), (1000, .box 85 [.sl Y0 s, .sl Y1 s_2, .bool st1.1, .int .i64 st1.2.1, .own 22])] gt ?_
          refine zS 4 [(0, .bp 1000 0), (1, .sl (.int .i64) l), (2, .bool false), (6, .int .i64 st1.2.2.2.2), (39, .bool true), (41, .bool false), (45, .cv (undef))] [(22, .arr 3 (.int .i64) st1.2.2.1), (1000, .box 85 [.sl Y0 s, .sl Y1 s_2, .bool st1.1, .int .i64 st1.2.1, .own 22])] ?_
          refine zB [(0, .bp 1000 0), (1, .sl (.int .i64) l), (2, .bool false), (6, .int .i64 st1.2.2.2.2), (49, .bool true)] [(22, .arr 3 (.int .i64) st1.2.2.1), (1000, .box 85 [.sl Y0 s, .sl Y1 s_2, .bool st1.1, .int .i64 st1.2.1, .own 22])] ?_
          refine AW.cond (b := true) rfl (fun _ => ?_) (fun hb69 => by cases hb69)
          refine zk ?_
          exact AW.weaken (zL [] [] []) (hk_linealref02_search_from_2_k3 _ h)
      ·
        refine zT [(0, .bp 1000 0), (1, .sl (.int .i64) l), (2, .bool st1.2.2.2.1), (6, .int .i64 st1.2.2.2.2), (39, .bool false)] [(22, .arr 3 (.int .i64) st1.2.2.1), (1000, .box 85 [.sl Y0 s, .sl Y1 s_2, .bool st1.1, .int .i64 st1.2.1, .own 22])] gt ?_
        refine zS 4 [(0, .bp 1000 0), (1, .sl (.int .i64) l), (2, .bool st1.2.2.2.1), (6, .int .i64 st1.2.2.2.2), (39, .bool false), (41, .cv (undef)), (43, .cv (undef))] [(22, .arr 3 (.int .i64) st1.2.2.1), (1000, .box 85 [.sl Y0 s, .sl Y1 s_2, .bool st1.1, .int .i64 st1.2.1, .own 22])] ?_
        refine zS 4 [(0, .bp 1000 0), (1, .sl (.int .i64) l), (2, .bool st1.2.2.2.1), (6, .int .i64 st1.2.2.2.2), (39, .bool false), (47, .cv (undef))] [(22, .arr 3 (.int .i64) st1.2.2.1), (1000, .box 85 [.sl Y0 s, .sl Y1 s_2, .bool st1.1, .int .i64 st1.2.1, .own 22])] ?_
        refine zB [(0, .bp 1000 0), (1, .sl (.int .i64) l), (2, .bool st1.2.2.2.1), (6, .int .i64 st1.2.2.2.2), (49, .bool false)] [(22, .arr 3 (.int .i64) st1.2.2.1), (1000, .box 85 [.sl Y0 s, .sl Y1 s_2, .bool st1.1, .int .i64 st1.2.1, .own 22])] ?_
        refine AW.cond (b := false) rfl (fun hb70 => by cases hb70) (fun _ => ?_)
        refine AW.exit ?_
        refine athen_e ?_
        obtain rfl := Option.some.inj h
        rw [← hd3 _ rfl] at ho2
        have h := ho2
        refine athen_e ?_
        refine ablock_s ?_
        obtain rfl := Option.some.inj h
        exact zR [] [] [(2000, 22)]
  · refine AW.seq ?_
    refine zo ?_
    refine zS 5 [(0, .bp 1000 0), (1, .sl (.int .i64) l), (2, .bool one), (11, .sl Y1 s_2), (12, .sl (.int .i64) l)] [(1000, .box 85 [.sl Y0 s, .sl Y1 s_2, .bool s_3, .int .i64 s_4, .own 1001]), (1001, .arr 3 (.int .i64) s_5)] ?_
    obtain ⟨v0, hv71, h⟩ := Option.bind_eq_some_iff.1 h
    refine zC [] [] (hc_linealref02_isList s_2 l hv71) [(0, .bp 1000 0), (1, .sl (.int .i64) l), (2, .bool one), (13, .bool v0)] [(1000, .box 85 [.sl Y0 s, .sl Y1 s_2, .bool s_3, .int .i64 s_4, .own 1001]), (1001, .arr 3 (.int .i64) s_5)] ?_
    refine zB [(0, .bp 1000 0), (1, .sl (.int .i64) l), (2, .bool one), (13, .bool v0)] [(1000, .box 85 [.sl Y0 s, .sl Y1 s_2, .bool s_3, .int .i64 s_4, .own 1001]), (1001, .arr 3 (.int .i64) s_5)] ?_
    refine zQ h (fun hb72 h => ?_) (fun hb72 h => ?_)
    ·
      refine AW.have1 (fun b2 : (List Int) => linealref02_search_from_2_k2 slf l one s s_2 s_3 s_4 b2 = some r) (fun b2 => ⟨fr [(0, .bp 1000 0), (1, .sl (.int .i64) l), (2, .bool one)], hpGet [(22, .arr 3 (.int .i64) b2), (1000, .box 85 [.sl Y0 s, .sl Y1 s_2, .bool s_3, .int .i64 s_4, .own 22])], gt⟩) (fun b2 h => ?_) (fun hk_linealref02_search_from_2_k2 => ?_)
      · unfold linealref02_search_from_2_k2 at h
        refine AW.ops ?_
        obtain ⟨c73, h⟩ := ck_some.1 h
        refine zB [(0, .bp 1000 0), (1, .sl (.int .i64) l), (2, .bool one)] [(22, .arr 3 (.int .i64) b2), (1000, .box 85 [.sl Y0 s, .sl Y1 s_2, .bool s_3, .int .i64 (s_4 + 1), .own 22])] ?_
        refine zo ?_
        refine zB [(0, .bp 1000 0), (1, .sl (.int .i64) l), (2, .bool one), (6, .int .i64 0)] [(22, .arr 3 (.int .i64) b2), (1000, .box 85 [.sl Y0 s, .sl Y1 s_2, .bool s_3, .int .i64 (s_4 + 1), .own 22])] ?_
        exact AW.weaken (zL [] [] []) (hk_linealref02_search_from_2_k1 _ h)
      · refine AW.seq ?_
        refine zo ?_
        refine zB [(0, .bp 1000 0), (1, .sl (.int .i64) l), (2, .bool one), (18, .bool (decide (s_4 = 0)))] [(1000, .box 85 [.sl Y0 s, .sl Y1 s_2, .bool s_3, .int .i64 s_4, .own 1001]), (1001, .arr 3 (.int .i64) s_5)] ?_
        refine zQ h (fun hb74 h => ?_) (fun hb74 h => ?_)
        ·
          refine AW.ops ?_
          obtain ⟨c75, h⟩ := ck_some.1 h
          refine zB [(0, .bp 1000 0), (1, .sl (.int .i64) l), (2, .bool one)] [(22, .arr 3 (.int .i64) l), (1000, .box 85 [.sl Y0 s, .sl Y1 s_2, .bool s_3, .int .i64 s_4, .own 22])] ?_
          exact AW.weaken (zL [] [] []) (hk_linealref02_search_from_2_k2 _ h)
        ·
          refine zk ?_
          exact AW.weaken (zL [] [] [(22, 1001)]) (hk_linealref02_search_from_2_k2 _ h)
    ·
      refine zk ?_
      refine zo ?_
      refine zB [(0, .bp 1000 0), (1, .sl (.int .i64) l), (2, .bool one), (6, .int .i64 0)] [(1000, .box 85 [.sl Y0 s, .sl Y1 s_2, .bool s_3, .int .i64 s_4, .own 1001]), (1001, .arr 3 (.int .i64) s_5)] ?_
      exact AW.weaken (zL [] [] [(22, 1001)]) (hk_linealref02_search_from_2_k1 _ h)

theorem hc_linealref02_search_from_2 : ∀ (n : Nat) (l : List Int) (one : Bool) (s : List (Int × Int × (List (List Int)) × (List (List Int)))) (s_2 : List (Int × Int × Int × Int × Int × Int)) (s_3 : Bool) (s_4 : Int) (s_5 : List Int) {r : Bool × Int × (List Int)}, linealref02_search_from_2 n l one s s_2 s_3 s_4 s_5 = some r → HC Try.prog 88 [(1000, .box 85 [.sl Y0 s, .sl Y1 s_2, .bool s_3, .int .i64 s_4, .own 1001]), (1001, .arr 3 (.int .i64) s_5)] [.bp 1000 0, .sl (.int .i64) l, .bool one] [(1000, .box 85 [.sl Y0 s, .sl Y1 s_2, .bool r.1, .int .i64 r.2.1, .own 2000]), (2000, .arr 3 (.int .i64) r.2.2)] (.tup []) := by
  intro n
  induction n with
  | zero => intro l one s s_2 s_3 s_4 s_5 r h; cases h
  | succ n ih => intro l one s s_2 s_3 s_4 s_5 r h; exact hc_linealref02_search_from_2F (linealref02_search_from_2 n) ih l one s s_2 s_3 s_4 s_5 h

theorem hc_linealref02_search_from (l : List Int) (one : Bool) (s : List (Int × Int × (List (List Int)) × (List (List Int)))) (s_2 : List (Int × Int × Int × Int × Int × Int)) (s_3 : Bool) (s_4 : Int) {r : Bool × Int × (List Int)} (h : linealref02_search_from l one s s_2 s_3 s_4 = some r) : HC Try.prog 88 [(1000, .box 85 [.sl Y0 s, .sl Y1 s_2, .bool s_3, .int .i64 s_4, .cv (.slice none 0 0)])] [.bp 1000 0, .sl (.int .i64) l, .bool one] [(1000, .box 85 [.sl Y0 s, .sl Y1 s_2, .bool r.1, .int .i64 r.2.1, .own 2000]), (2000, .arr 3 (.int .i64) r.2.2)] (.tup []) := by
  unfold linealref02_search_from at h
  refine zH Try.func88 [] 107 ?_
  refine AW.have2 (fun b2_2 : Int × (List Int) => linealref02_search_from_k1 l one s s_2 s_3 b2_2 = some r) (fun b2_2 => ⟨fr [(0, .bp 1000 0), (1, .sl (.int .i64) l), (2, .bool one), (6, .int .i64 0)], hpGet [(22, .arr 3 (.int .i64) b2_2.2), (1000, .box 85 [.sl Y0 s, .sl Y1 s_2, .bool s_3, .int .i64 b2_2.1, .own 22])], gt⟩) (fun b2_2 h => ?_) (fun hk_linealref02_search_from_k1 => ?_)
  · unfold linealref02_search_from_k1 at h
    refine AW.block ?_
    obtain ⟨rv5, hw1, ho2⟩ := Option.bind_eq_some_iff.1 h
    refine AW.loopO (linealref02_search_from_b1 l s s_2) (fun st1 => ⟨fr [(0, .bp 1000 0), (1, .sl (.int .i64) l), (2, .bool st1.2.2.2.1), (6, .int .i64 st1.2.2.2.2)], hpGet [(22, .arr 3 (.int .i64) st1.2.2.1), (1000, .box 85 [.sl Y0 s, .sl Y1 s_2, .bool st1.1, .int .i64 st1.2.1, .own 22])], gt⟩) (s_3, b2_2.1, b2_2.2, one, 0) hw1 (zL [] [] []) ?_
    intro st1 x4 h hd3
    unfold linealref02_search_from_b1 at h
    refine AW.have1 (fun b3 : Bool => linealref02_search_from_k3 l s s_2 st1 b3 = some x4) (fun b3 => ⟨fr [(0, .bp 1000 0), (1, .sl (.int .i64) l), (2, .bool b3), (6, .int .i64 st1.2.2.2.2)], hpGet [(22, .arr 3 (.int .i64) st1.2.2.1), (1000, .box 85 [.sl Y0 s, .sl Y1 s_2, .bool st1.1, .int .i64 st1.2.1, .own 22])], gt⟩) (fun b3 h => ?_) (fun hk_linealref02_search_from_k3 => ?_)
    · unfold linealref02_search_from_k3 at h
      refine AW.seq ?_
      refine AW.block ?_
      refine zo ?_
      obtain ⟨c6, h⟩ := ck_some.1 h
      obtain ⟨c7, h⟩ := ck_some.1 h
      refine zB [(0, .bp 1000 0), (1, .sl (.int .i64) l), (2, .bool b3), (6, .int .i64 st1.2.2.2.2), (7, .own 57)] [(22, .arr 3 (.int .i64) st1.2.2.1), (57, .arr 3 (.int .i64) (l ++ [st1.2.2.2.2])), (1000, .box 85 [.sl Y0 s, .sl Y1 s_2, .bool st1.1, .int .i64 st1.2.1, .own 22])] ?_
      refine AW.seq ?_
      refine AW.draw tab_ok mixed_ok [] [] (by decide) (lex_fast (by kernel_rfl)) ?_
      refine adops_cut 2 (fun K' hK8 => ?_)
      try dsimp only [List.drop_succ_cons, List.drop_zero, List.take_succ_cons, List.take_zero]
      simp only [go_sem]
      repeat (with_reducible refine And.intro (by first | assumption | rfl | omega | trivial | (unfold maxLen; omega)) ?_)
      refine hK8 _ ?_
      obtain ⟨v0_2, hv9, h⟩ := Option.bind_eq_some_iff.1 h
      refine adops.call (by first | trivial | rfl) rfl rfl rfl (fun _ h => h) [] [] (hc_linealref02_has l st1.2.2.2.2 hv9) rfl (by (simp only [go_sem]) <;> (with_reducible and_intros) <;> first | assumption | rfl | omega | (unfold maxLen; omega)) (by (simp only [go_sem]) <;> (with_reducible and_intros) <;> first | assumption | rfl | omega | (unfold maxLen; omega)) rfl ?_
      refine adops_cut 2 (fun K' hK10 => ?_)
      try dsimp only [List.drop_succ_cons, List.drop_zero, List.take_succ_cons, List.take_zero]
      simp only [go_sem]
      repeat (with_reducible refine And.intro (by first | assumption | rfl | omega | trivial | (unfold maxLen; omega)) ?_)
      refine hK10 _ ?_
      rcases zI h with ⟨hb11, h⟩ | ⟨hb11, h⟩
      ·
        simp only [hb11]
        refine adops_cut 6 (fun K' hK12 => ?_)
        try dsimp only [List.drop_succ_cons, List.drop_zero, List.take_succ_cons, List.take_zero]
        simp only [go_sem, hb11]
        repeat (with_reducible refine And.intro (by first | assumption | rfl | omega | trivial | (unfold maxLen; omega)) ?_)
        refine hK12 _ ?_
        refine adops_cut 3 (fun K' hK13 => ?_)
        try dsimp only [List.drop_succ_cons, List.drop_zero, List.take_succ_cons, List.take_zero]
        simp only [go_sem, hb11]
        repeat (with_reducible refine And.intro (by first | assumption | rfl | omega | trivial | (unfold maxLen; omega)) ?_)
        refine hK13 _ ?_
        obtain ⟨v0_3, hv14, h⟩ := Option.bind_eq_some_iff.1 h
        refine adops.call (by first | trivial | rfl) rfl rfl rfl (fun _ h => ⟨fun _ => h, fun hn => absurd rfl hn⟩) [57] [] (hc_linealref02_allows s s_2 (l ++ [st1.2.2.2.2]) hv14) rfl (by (simp only [go_sem, hb11]) <;> (with_reducible and_intros) <;> first | assumption | rfl | omega | (unfold maxLen; omega)) (by (simp only [go_sem, hb11]) <;> (with_reducible and_intros) <;> first | assumption | rfl | omega | (unfold maxLen; omega)) rfl ?_
        refine adops_cut 2 (fun K' hK15 => ?_)
        try dsimp only [List.drop_succ_cons, List.drop_zero, List.take_succ_cons, List.take_zero]
        simp only [go_sem, hb11]
        repeat (with_reducible refine And.intro (by first | assumption | rfl | omega | trivial | (unfold maxLen; omega)) ?_)
        refine hK15 _ ?_
        rcases zI h with ⟨hb16, h⟩ | ⟨hb16, h⟩
        ·
          simp only [hb16]
          refine adops_cut 5 (fun K' hK17 => ?_)
          try dsimp only [List.drop_succ_cons, List.drop_zero, List.take_succ_cons, List.take_zero]
          simp only [go_sem, hb11, hb16]
          repeat (with_reducible refine And.intro (by first | assumption | rfl | omega | trivial | (unfold maxLen; omega)) ?_)
          refine hK17 _ ?_
          rcases zI h with ⟨hb18, h⟩ | ⟨hb18, h⟩
          ·
            simp only [hb18]
            refine adops_cut 5 (fun K' hK19 => ?_)
            try dsimp only [List.drop_succ_cons, List.drop_zero, List.take_succ_cons, List.take_zero]
            simp only [go_sem, hb11, hb16, hb18]
            repeat (with_reducible refine And.intro (by first | assumption | rfl | omega | trivial | (unfold maxLen; omega)) ?_)
            refine hK19 _ ?_
            obtain ⟨v0_4, hv20, h⟩ := Option.bind_eq_some_iff.1 h
            refine adops.call (by first | trivial | rfl) rfl rfl rfl (fun _ h => ⟨fun _ => h, fun hn => absurd rfl hn⟩) [57] [] (hc_linealref02_keepsThreads s_2 (l ++ [st1.2.2.2.2]) hv20) rfl (by (simp only [go_sem, hb11, hb16, hb18]) <;> (with_reducible and_intros) <;> first | assumption | rfl | omega | (unfold maxLen; omega)) (by (simp only [go_sem, hb11, hb16, hb18]) <;> (with_reducible and_intros) <;> first | assumption | rfl | omega | (unfold maxLen; omega)) rfl ?_
            refine adops_cut 2 (fun K' hK21 => ?_)
            try dsimp only [List.drop_succ_cons, List.drop_zero, List.take_succ_cons, List.take_zero]
            simp only [go_sem, hb11, hb16, hb18]
            repeat (with_reducible refine And.intro (by first | assumption | rfl | omega | trivial | (unfold maxLen; omega)) ?_)
            refine hK21 _ ?_
            rcases zI h with ⟨hb22, h⟩ | ⟨hb22, h⟩
            ·
              simp only [hb22]
              refine adops_cut 4 (fun K' hK23 => ?_)
              try dsimp only [List.drop_succ_cons, List.drop_zero, List.take_succ_cons, List.take_zero]
              simp only [go_sem, hb11, hb16, hb18, hb22]
              repeat (with_reducible refine And.intro (by first | assumption | rfl | omega | trivial | (unfold maxLen; omega)) ?_)
              refine hK23 _ ?_
              refine adops_cut 4 (fun K' hK24 => ?_)
              try dsimp only [List.drop_succ_cons, List.drop_zero, List.take_succ_cons, List.take_zero]
              simp only [go_sem, hb11, hb16, hb18, hb22]
              repeat (with_reducible refine And.intro (by first | assumption | rfl | omega | trivial | (unfold maxLen; omega)) ?_)
              refine hK24 _ ?_
              refine adops_cut 4 (fun K' hK25 => ?_)
              try dsimp only [List.drop_succ_cons, List.drop_zero, List.take_succ_cons, List.take_zero]
              simp only [go_sem, hb11, hb16, hb18, hb22]
              repeat (with_reducible refine And.intro (by first | assumption | rfl | omega | trivial | (unfold maxLen; omega)) ?_)
              refine hK25 _ ?_
              refine adops_cut 3 (fun K' hK26 => ?_)
              try dsimp only [List.drop_succ_cons, List.drop_zero, List.take_succ_cons, List.take_zero]
              simp only [go_sem, hb11, hb16, hb18, hb22]
              repeat (with_reducible refine And.intro (by first | assumption | rfl | omega | trivial | (unfold maxLen; omega)) ?_)
              refine hK26 _ ?_
              refine adops_nil ?_
              refine athen_n ?_
              refine zV [(0, .bp 1000 0), (1, .sl (.int .i64) l), (2, .bool b3), (6, .int .i64 st1.2.2.2.2), (7, .own 57), (102, .bool true)] [(22, .arr 3 (.int .i64) st1.2.2.1), (57, .arr 3 (.int .i64) (l ++ [st1.2.2.2.2])), (1000, .box 85 [.sl Y0 s, .sl Y1 s_2, .bool true, .int .i64 st1.2.1, .own 22])] gt ?_
              refine AW.cond (b := true) rfl (fun _ => ?_) (fun hb27 => by cases hb27)
              refine AW.ops ?_
              refine zS 3 [(0, .bp 1000 0), (1, .sl (.int .i64) l), (2, .bool b3), (6, .int .i64 st1.2.2.2.2), (103, .bp 1000 0), (104, .own 57), (105, .bool b3)] [(22, .arr 3 (.int .i64) st1.2.2.1), (57, .arr 3 (.int .i64) (l ++ [st1.2.2.2.2])), (1000, .box 85 [.sl Y0 s, .sl Y1 s_2, .bool true, .int .i64 st1.2.1, .own 22])] ?_
              obtain ⟨v0_5, hv28, h⟩ := Option.bind_eq_some_iff.1 h
              refine zC [57] [(1000, 1000), (1001, 22)] (hc_linealref02_search_from_2 fuel (l ++ [st1.2.2.2.2]) b3 s s_2 true st1.2.1 st1.2.2.1 hv28) [(0, .bp 1000 0), (1, .sl (.int .i64) l), (2, .bool b3), (6, .int .i64 st1.2.2.2.2)] [(1000, .box 85 [.sl Y0 s, .sl Y1 s_2, .bool v0_5.1, .int .i64 v0_5.2.1, .own 116000]), (116000, .arr 3 (.int .i64) v0_5.2.2)] ?_
              refine zA [(0, .bp 1000 0), (1, .sl (.int .i64) l), (2, .bool b3), (6, .int .i64 st1.2.2.2.2)] [(1000, .box 85 [.sl Y0 s, .sl Y1 s_2, .bool v0_5.1, .int .i64 v0_5.2.1, .own 116000]), (116000, .arr 3 (.int .i64) v0_5.2.2)] ?_
              refine ablock_n ?_
              refine athen_n ?_
              refine AW.ops ?_
              obtain ⟨c29, h⟩ := ck_some.1 h
              refine zA [(0, .bp 1000 0), (1, .sl (.int .i64) l), (2, .bool b3), (6, .int .i64 (st1.2.2.2.2 + 1))] [(1000, .box 85 [.sl Y0 s, .sl Y1 s_2, .bool v0_5.1, .int .i64 v0_5.2.1, .own 116000]), (116000, .arr 3 (.int .i64) v0_5.2.2)] ?_
              obtain rfl := Option.some.inj h
              exact ⟨_, rfl, zL [] [] [(22, 116000)]⟩
            ·
              simp only [hb22]
              refine adops_cut 6 (fun K' hK30 => ?_)
              try dsimp only [List.drop_succ_cons, List.drop_zero, List.take_succ_cons, List.take_zero]
              simp only [go_sem, hb11, hb16, hb18, hb22]
              repeat (with_reducible refine And.intro (by first | assumption | rfl | omega | trivial | (unfold maxLen; omega)) ?_)
              refine hK30 _ ?_
              refine adops_cut 4 (fun K' hK31 => ?_)
              try dsimp only [List.drop_succ_cons, List.drop_zero, List.take_succ_cons, List.take_zero]
              simp only [go_sem, hb11, hb16, hb18, hb22]
              repeat (with_reducible refine And.intro (by first | assumption | rfl | omega | trivial | (unfold maxLen; omega)) ?_)
              refine hK31 _ ?_
              refine adops_cut 5 (fun K' hK32 => ?_)
              try dsimp only [List.drop_succ_cons, List.drop_zero, List.take_succ_cons, List.take_zero]
              simp only [go_sem, hb11, hb16, hb18, hb22]
              repeat (with_reducible refine And.intro (by first | assumption | rfl | omega | trivial | (unfold maxLen; omega)) ?_)
              refine hK32 _ ?_
              refine adops_nil ?_
              refine athen_n ?_
              refine zV [(0, .bp 1000 0), (1, .sl (.int .i64) l), (2, .bool b3), (6, .int .i64 st1.2.2.2.2), (7, .own 57), (102, .bool false)] [(22, .arr 3 (.int .i64) st1.2.2.1), (57, .arr 3 (.int .i64) (l ++ [st1.2.2.2.2])), (1000, .box 85 [.sl Y0 s, .sl Y1 s_2, .bool true, .int .i64 st1.2.1, .own 22])] gt ?_
              refine AW.cond (b := false) rfl (fun hb33 => by cases hb33) (fun _ => ?_)
              refine zm ?_
              refine athen_n ?_
              refine AW.ops ?_
              obtain ⟨c34, h⟩ := ck_some.1 h
              refine zA [(0, .bp 1000 0), (1, .sl (.int .i64) l), (2, .bool b3), (6, .int .i64 (st1.2.2.2.2 + 1))] [(22, .arr 3 (.int .i64) st1.2.2.1), (1000, .box 85 [.sl Y0 s, .sl Y1 s_2, .bool true, .int .i64 st1.2.1, .own 22])] ?_
              obtain rfl := Option.some.inj h
              exact ⟨_, rfl, zL [] [] []⟩
          ·
            simp only [hb18]
            refine adops_cut 4 (fun K' hK35 => ?_)
            try dsimp only [List.drop_succ_cons, List.drop_zero, List.take_succ_cons, List.take_zero]
            simp only [go_sem, hb11, hb16, hb18]
            repeat (with_reducible refine And.intro (by first | assumption | rfl | omega | trivial | (unfold maxLen; omega)) ?_)
            refine hK35 _ ?_
            refine adops_cut 6 (fun K' hK36 => ?_)
            try dsimp only [List.drop_succ_cons, List.drop_zero, List.take_succ_cons, List.take_zero]
            simp only [go_sem, hb11, hb16, hb18]
            repeat (with_reducible refine And.intro (by first | assumption | rfl | omega | trivial | (unfold maxLen; omega)) ?_)
            refine hK36 _ ?_
            refine adops_cut 6 (fun K' hK37 => ?_)
            try dsimp only [List.drop_succ_cons, List.drop_zero, List.take_succ_cons, List.take_zero]
            simp only [go_sem, hb11, hb16, hb18]
            repeat (with_reducible refine And.intro (by first | assumption | rfl | omega | trivial | (unfold maxLen; omega)) ?_)
            refine hK37 _ ?_
            refine adops_cut 3 (fun K' hK38 => ?_)
            try dsimp only [List.drop_succ_cons, List.drop_zero, List.take_succ_cons, List.take_zero]
            simp only [go_sem, hb11, hb16, hb18]
            repeat (with_reducible refine And.intro (by first | assumption | rfl | omega | trivial | (unfold maxLen; omega)) ?_)
            refine hK38 _ ?_
            obtain ⟨v0_6, hv39, h⟩ := Option.bind_eq_some_iff.1 h
            refine adops.call (by first | trivial | rfl) rfl rfl rfl (fun _ h => ⟨fun _ => h, fun hn => absurd rfl hn⟩) [57] [] (hc_linealref02_keepsTime s_2 (l ++ [st1.2.2.2.2]) hv39) rfl (by (simp only [go_sem, hb11, hb16, hb18]) <;> (with_reducible and_intros) <;> first | assumption | rfl | omega | (unfold maxLen; omega)) (by (simp only [go_sem, hb11, hb16, hb18]) <;> (with_reducible and_intros) <;> first | assumption | rfl | omega | (unfold maxLen; omega)) rfl ?_
            refine adops_cut 3 (fun K' hK40 => ?_)
            try dsimp only [List.drop_succ_cons, List.drop_zero, List.take_succ_cons, List.take_zero]
            simp only [go_sem, hb11, hb16, hb18]
            repeat (with_reducible refine And.intro (by first | assumption | rfl | omega | trivial | (unfold maxLen; omega)) ?_)
            refine hK40 _ ?_
            refine adops_nil ?_
            refine athen_n ?_
            refine zV [(0, .bp 1000 0), (1, .sl (.int .i64) l), (2, .bool b3), (6, .int .i64 st1.2.2.2.2), (7, .own 57), (102, .bool v0_6)] [(22, .arr 3 (.int .i64) st1.2.2.1), (57, .arr 3 (.int .i64) (l ++ [st1.2.2.2.2])), (1000, .box 85 [.sl Y0 s, .sl Y1 s_2, .bool false, .int .i64 st1.2.1, .own 22])] gt ?_
            refine zQ h (fun hb41 h => ?_) (fun hb41 h => ?_)
            ·
              refine AW.ops ?_
              refine zS 3 [(0, .bp 1000 0), (1, .sl (.int .i64) l), (2, .bool b3), (6, .int .i64 st1.2.2.2.2), (103, .bp 1000 0), (104, .own 57), (105, .bool b3)] [(22, .arr 3 (.int .i64) st1.2.2.1), (57, .arr 3 (.int .i64) (l ++ [st1.2.2.2.2])), (1000, .box 85 [.sl Y0 s, .sl Y1 s_2, .bool false, .int .i64 st1.2.1, .own 22])] ?_
              obtain ⟨v0_7, hv42, h⟩ := Option.bind_eq_some_iff.1 h
              refine zC [57] [(1000, 1000), (1001, 22)] (hc_linealref02_search_from_2 fuel (l ++ [st1.2.2.2.2]) b3 s s_2 false st1.2.1 st1.2.2.1 hv42) [(0, .bp 1000 0), (1, .sl (.int .i64) l), (2, .bool b3), (6, .int .i64 st1.2.2.2.2)] [(1000, .box 85 [.sl Y0 s, .sl Y1 s_2, .bool v0_7.1, .int .i64 v0_7.2.1, .own 116000]), (116000, .arr 3 (.int .i64) v0_7.2.2)] ?_
              refine zA [(0, .bp 1000 0), (1, .sl (.int .i64) l), (2, .bool b3), (6, .int .i64 st1.2.2.2.2)] [(1000, .box 85 [.sl Y0 s, .sl Y1 s_2, .bool v0_7.1, .int .i64 v0_7.2.1, .own 116000]), (116000, .arr 3 (.int .i64) v0_7.2.2)] ?_
              refine ablock_n ?_
              refine athen_n ?_
              refine AW.ops ?_
              obtain ⟨c43, h⟩ := ck_some.1 h
              refine zA [(0, .bp 1000 0), (1, .sl (.int .i64) l), (2, .bool b3), (6, .int .i64 (st1.2.2.2.2 + 1))] [(1000, .box 85 [.sl Y0 s, .sl Y1 s_2, .bool v0_7.1, .int .i64 v0_7.2.1, .own 116000]), (116000, .arr 3 (.int .i64) v0_7.2.2)] ?_
              obtain rfl := Option.some.inj h
              exact ⟨_, rfl, zL [] [] [(22, 116000)]⟩
            ·
              refine zm ?_
              refine athen_n ?_
              refine AW.ops ?_
              obtain ⟨c44, h⟩ := ck_some.1 h
              refine zA [(0, .bp 1000 0), (1, .sl (.int .i64) l), (2, .bool b3), (6, .int .i64 (st1.2.2.2.2 + 1))] [(22, .arr 3 (.int .i64) st1.2.2.1), (1000, .box 85 [.sl Y0 s, .sl Y1 s_2, .bool false, .int .i64 st1.2.1, .own 22])] ?_
              obtain rfl := Option.some.inj h
              exact ⟨_, rfl, zL [] [] []⟩
        ·
          simp only [hb16]
          refine adops_cut 4 (fun K' hK45 => ?_)
          try dsimp only [List.drop_succ_cons, List.drop_zero, List.take_succ_cons, List.take_zero]
          simp only [go_sem, hb11, hb16]
          repeat (with_reducible refine And.intro (by first | assumption | rfl | omega | trivial | (unfold maxLen; omega)) ?_)
          refine hK45 _ ?_
          refine adops_cut 4 (fun K' hK46 => ?_)
          try dsimp only [List.drop_succ_cons, List.drop_zero, List.take_succ_cons, List.take_zero]
          simp only [go_sem, hb11, hb16]
          repeat (with_reducible refine And.intro (by first | assumption | rfl | omega | trivial | (unfold maxLen; omega)) ?_)
          refine hK46 _ ?_
          refine adops_cut 4 (fun K' hK47 => ?_)
          try dsimp only [List.drop_succ_cons, List.drop_zero, List.take_succ_cons, List.take_zero]
          simp only [go_sem, hb11, hb16]
          repeat (with_reducible refine And.intro (by first | assumption | rfl | omega | trivial | (unfold maxLen; omega)) ?_)
          refine hK47 _ ?_
          refine adops_cut 4 (fun K' hK48 => ?_)
          try dsimp only [List.drop_succ_cons, List.drop_zero, List.take_succ_cons, List.take_zero]
          simp only [go_sem, hb11, hb16]
          repeat (with_reducible refine And.intro (by first | assumption | rfl | omega | trivial | (unfold maxLen; omega)) ?_)
          refine hK48 _ ?_
          refine adops_cut 4 (fun K' hK49 => ?_)
          try dsimp only [List.drop_succ_cons, List.drop_zero, List.take_succ_cons, List.take_zero]
          simp only [go_sem, hb11, hb16]
          repeat (with_reducible refine And.intro (by first | assumption | rfl | omega | trivial | (unfold maxLen; omega)) ?_)
          refine hK49 _ ?_
          refine adops_cut 4 (fun K' hK50 => ?_)
          try dsimp only [List.drop_succ_cons, List.drop_zero, List.take_succ_cons, List.take_zero]
          simp only [go_sem, hb11, hb16]
          repeat (with_reducible refine And.intro (by first | assumption | rfl | omega | trivial | (unfold maxLen; omega)) ?_)
          refine hK50 _ ?_
          refine adops_cut 4 (fun K' hK51 => ?_)
          try dsimp only [List.drop_succ_cons, List.drop_zero, List.take_succ_cons, List.take_zero]
          simp only [go_sem, hb11, hb16]
          repeat (with_reducible refine And.intro (by first | assumption | rfl | omega | trivial | (unfold maxLen; omega)) ?_)
          refine hK51 _ ?_
          refine adops_nil ?_
          refine athen_n ?_
          refine zV [(0, .bp 1000 0), (1, .sl (.int .i64) l), (2, .bool b3), (6, .int .i64 st1.2.2.2.2), (7, .own 57), (102, .bool false)] [(22, .arr 3 (.int .i64) st1.2.2.1), (57, .arr 3 (.int .i64) (l ++ [st1.2.2.2.2])), (1000, .box 85 [.sl Y0 s, .sl Y1 s_2, .bool st1.1, .int .i64 st1.2.1, .own 22])] gt ?_
          refine AW.cond (b := false) rfl (fun hb52 => by cases hb52) (fun _ => ?_)
          refine zm ?_
          refine athen_n ?_
          refine AW.ops ?_
          obtain ⟨c53, h⟩ := ck_some.1 h
          refine zA [(0, .bp 1000 0), (1, .sl (.int .i64) l), (2, .bool b3), (6, .int .i64 (st1.2.2.2.2 + 1))] [(22, .arr 3 (.int .i64) st1.2.2.1), (1000, .box 85 [.sl Y0 s, .sl Y1 s_2, .bool st1.1, .int .i64 st1.2.1, .own 22])] ?_
          obtain rfl := Option.some.inj h
          exact ⟨_, rfl, zL [] [] []⟩
      ·
        simp only [hb11]
        refine adops_cut 4 (fun K' hK54 => ?_)
        try dsimp only [List.drop_succ_cons, List.drop_zero, List.take_succ_cons, List.take_zero]
        simp only [go_sem, hb11]
        repeat (with_reducible refine And.intro (by first | assumption | rfl | omega | trivial | (unfold maxLen; omega)) ?_)
        refine hK54 _ ?_
        refine adops_cut 4 (fun K' hK55 => ?_)
        try dsimp only [List.drop_succ_cons, List.drop_zero, List.take_succ_cons, List.take_zero]
        simp only [go_sem, hb11]
        repeat (with_reducible refine And.intro (by first | assumption | rfl | omega | trivial | (unfold maxLen; omega)) ?_)
        refine hK55 _ ?_
        refine adops_cut 6 (fun K' hK56 => ?_)
        try dsimp only [List.drop_succ_cons, List.drop_zero, List.take_succ_cons, List.take_zero]
        simp only [go_sem, hb11]
        repeat (with_reducible refine And.intro (by first | assumption | rfl | omega | trivial | (unfold maxLen; omega)) ?_)
        refine hK56 _ ?_
        refine adops_cut 4 (fun K' hK57 => ?_)
        try dsimp only [List.drop_succ_cons, List.drop_zero, List.take_succ_cons, List.take_zero]
        simp only [go_sem, hb11]
        repeat (with_reducible refine And.intro (by first | assumption | rfl | omega | trivial | (unfold maxLen; omega)) ?_)
        refine hK57 _ ?_
        refine adops_cut 4 (fun K' hK58 => ?_)
        try dsimp only [List.drop_succ_cons, List.drop_zero, List.take_succ_cons, List.take_zero]
        simp only [go_sem, hb11]
        repeat (with_reducible refine And.intro (by first | assumption | rfl | omega | trivial | (unfold maxLen; omega)) ?_)
        refine hK58 _ ?_
        refine adops_cut 4 (fun K' hK59 => ?_)
        try dsimp only [List.drop_succ_cons, List.drop_zero, List.take_succ_cons, List.take_zero]
        simp only [go_sem, hb11]
        repeat (with_reducible refine And.intro (by first | assumption | rfl | omega | trivial | (unfold maxLen; omega)) ?_)
        refine hK59 _ ?_
        refine adops_cut 4 (fun K' hK60 => ?_)
        try dsimp only [List.drop_succ_cons, List.drop_zero, List.take_succ_cons, List.take_zero]
        simp only [go_sem, hb11]
        repeat (with_reducible refine And.intro (by first | assumption | rfl | omega | trivial | (unfold maxLen; omega)) ?_)
        refine hK60 _ ?_
        refine adops_cut 4 (fun K' hK61 => ?_)
        try dsimp only [List.drop_succ_cons, List.drop_zero, List.take_succ_cons, List.take_zero]
        simp only [go_sem, hb11]
        repeat (with_reducible refine And.intro (by first | assumption | rfl | omega | trivial | (unfold maxLen; omega)) ?_)
        refine hK61 _ ?_
        refine adops_cut 4 (fun K' hK62 => ?_)
        try dsimp only [List.drop_succ_cons, List.drop_zero, List.take_succ_cons, List.take_zero]
        simp only [go_sem, hb11]
        repeat (with_reducible refine And.intro (by first | assumption | rfl | omega | trivial | (unfold maxLen; omega)) ?_)
        refine hK62 _ ?_
        refine adops_cut 2 (fun K' hK63 => ?_)
        try dsimp only [List.drop_succ_cons, List.drop_zero, List.take_succ_cons, List.take_zero]
        simp only [go_sem, hb11]
        repeat (with_reducible refine And.intro (by first | assumption | rfl | omega | trivial | (unfold maxLen; omega)) ?_)
        refine hK63 _ ?_
        refine adops_nil ?_
        refine athen_n ?_
        refine zV [(0, .bp 1000 0), (1, .sl (.int .i64) l), (2, .bool b3), (6, .int .i64 st1.2.2.2.2), (7, .own 57), (102, .bool false)] [(22, .arr 3 (.int .i64) st1.2.2.1), (57, .arr 3 (.int .i64) (l ++ [st1.2.2.2.2])), (1000, .box 85 [.sl Y0 s, .sl Y1 s_2, .bool st1.1, .int .i64 st1.2.1, .own 22])] gt ?_
        refine AW.cond (b := false) rfl (fun hb64 => by cases hb64) (fun _ => ?_)
        refine zm ?_
        refine athen_n ?_
        refine AW.ops ?_
        obtain ⟨c65, h⟩ := ck_some.1 h
        refine zA [(0, .bp 1000 0), (1, .sl (.int .i64) l), (2, .bool b3), (6, .int .i64 (st1.2.2.2.2 + 1))] [(22, .arr 3 (.int .i64) st1.2.2.1), (1000, .box 85 [.sl Y0 s, .sl Y1 s_2, .bool st1.1, .int .i64 st1.2.1, .own 22])] ?_
        obtain rfl := Option.some.inj h
        exact ⟨_, rfl, zL [] [] []⟩
    · refine AW.seq ?_
      refine zo ?_
      refine zS 8 [(0, .bp 1000 0), (1, .sl (.int .i64) l), (2, .bool st1.2.2.2.1), (6, .int .i64 st1.2.2.2.2), (39, .bool (decide (st1.2.2.2.2 < (s_2.length : Int))))] [(22, .arr 3 (.int .i64) st1.2.2.1), (1000, .box 85 [.sl Y0 s, .sl Y1 s_2, .bool st1.1, .int .i64 st1.2.1, .own 22])] ?_
      rcases zI h with ⟨hb66, h⟩ | ⟨hb66, h⟩
      ·
        refine zT [(0, .bp 1000 0), (1, .sl (.int .i64) l), (2, .bool st1.2.2.2.1), (6, .int .i64 st1.2.2.2.2), (39, .bool true)] [(22, .arr 3 (.int .i64) st1.2.2.1), (1000, .box 85 [.sl Y0 s, .sl Y1 s_2, .bool st1.1, .int .i64 st1.2.1, .own 22])] gt ?_
        refine zS 2 [(0, .bp 1000 0), (1, .sl (.int .i64) l), (2, .bool st1.2.2.2.1), (6, .int .i64 st1.2.2.2.2), (39, .bool true), (41, .bool st1.2.2.2.1)] [(22, .arr 3 (.int .i64) st1.2.2.1), (1000, .box 85 [.sl Y0 s, .sl Y1 s_2, .bool st1.1, .int .i64 st1.2.1, .own 22])] ?_
        rcases zI h with ⟨hb67, h⟩ | ⟨hb67, h⟩
        ·
          refine zT [(0, .bp 1000 0), (1, .sl (.int .i64) l), (2, .bool true), (6, .int .i64 st1.2.2.2.2), (39, .bool true), (41, .bool true)] [(22, .arr 3 (.int .i64) st1.2.2.1), (1000, .box 85 [.sl Y0 s, .sl Y1 s_2, .bool st1.1, .int .i64 st1.2.1, .own 22])] gt ?_
          refine zB [(0, .bp 1000 0), (1, .sl (.int .i64) l), (2, .bool true), (6, .int .i64 st1.2.2.2.2), (49, .bool (!(decide (0 < st1.2.1))))] [(22, .arr 3 (.int .i64) st1.2.2.1), (1000, .box 85 [.sl Y0 s, .sl Y1 s_2, .bool st1.1, .int .i64 st1.2.1, .own 22])] ?_
          refine zQ h (fun hb68 h => ?_) (fun hb68 h => ?_)
          ·
            refine zk ?_
            exact AW.weaken (zL [] [] []) (hk_linealref02_search_from_k3 _ h)
          ·
            refine AW.exit ?_
            refine athen_e ?_
            obtain rfl := Option.some.inj h
            rw [← hd3 _ rfl] at ho2
            have h := ho2
            refine athen_e ?_
            refine ablock_s ?_
            obtain rfl := Option.some.inj h
            exact zR [] [] [(2000, 22)]
        ·
          refine zT [(0, .bp 1000 0), (1, .sl (.int .i64) l), (2, .bool false), (6, .int .i64 st1.2.2.2.2), (39, .bool true), (41, .bool false)] [(22, .arr 3 (.int .i64) st1.2.2.1), (1000, .box 85 [.sl Y0 s, .sl Y1 s_2, .bool st1.1, .int .i64 st1.2.1, .own 22])] gt ?_
          refine zS 4 [(0, .bp 1000 0), (1, .sl (.int .i64) l), (2, .bool false), (6, .int .i64 st1.2.2.2.2), (39, .bool true), (41, .bool false), (45, .cv (undef))] [(22, .arr 3 (.int .i64) st1.2.2.1), (1000, .box 85 [.sl Y0 s, .sl Y1 s_2, .bool st1.1, .int .i64 st1.2.1, .own 22])] ?_
          refine zB [(0, .bp 1000 0), (1, .sl (.int .i64) l), (2, .bool false), (6, .int .i64 st1.2.2.2.2), (49, .bool true)] [(22, .arr 3 (.int .i64) st1.2.2.1), (1000, .box 85 [.sl Y0 s, .sl Y1 s_2, .bool st1.1, .int .i64 st1.2.1, .own 22])] ?_
          refine AW.cond (b := true) rfl (fun _ => ?_) (fun hb69 => by cases hb69)
          refine zk ?_
          exact AW.weaken (zL [] [] []) (hk_linealref02_search_from_k3 _ h)
      ·
        refine zT [(0, .bp 1000 0), (1, .sl (.int .i64) l), (2, .bool st1.2.2.2.1), (6, .int .i64 st1.2.2.2.2), (39, .bool false)] [(22, .arr 3 (.int .i64) st1.2.2.1), (1000, .box 85 [.sl Y0 s, .sl Y1 s_2, .bool st1.1, .int .i64 st1.2.1, .own 22])] gt ?_
        refine zS 4 [(0, .bp 1000 0), (1, .sl (.int .i64) l), (2, .bool st1.2.2.2.1), (6, .int .i64 st1.2.2.2.2), (39, .bool false), (41, .cv (undef)), (43, .cv (undef))] [(22, .arr 3 (.int .i64) st1.2.2.1), (1000, .box 85 [.sl Y0 s, .sl Y1 s_2, .bool st1.1, .int .i64 st1.2.1, .own 22])] ?_
        refine zS 4 [(0, .bp 1000 0), (1, .sl (.int .i64) l), (2, .bool st1.2.2.2.1), (6, .int .i64 st1.2.2.2.2), (39, .bool false), (47, .cv (undef))] [(22, .arr 3 (.int .i64) st1.2.2.1), (1000, .box 85 [.sl Y0 s, .sl Y1 s_2, .bool st1.1, .int .i64 st1.2.1, .own 22])] ?_
        refine zB [(0, .bp 1000 0), (1, .sl (.int .i64) l), (2, .bool st1.2.2.2.1), (6, .int .i64 st1.2.2.2.2), (49, .bool false)] [(22, .arr 3 (.int .i64) st1.2.2.1), (1000, .box 85 [.sl Y0 s, .sl Y1 s_2, .bool st1.1, .int .i64 st1.2.1, .own 22])] ?_
        refine AW.cond (b := false) rfl (fun hb70 => by cases hb70) (fun _ => ?_)
        refine AW.exit ?_
        refine athen_e ?_
        obtain rfl := Option.some.inj h
        rw [← hd3 _ rfl] at ho2
        have h := ho2
        refine athen_e ?_
        refine ablock_s ?_
        obtain rfl := Option.some.inj h
        exact zR [] [] [(2000, 22)]
  · refine AW.seq ?_
    refine zo ?_
    refine zS 5 [(0, .bp 1000 0), (1, .sl (.int .i64) l), (2, .bool one), (11, .sl Y1 s_2), (12, .sl (.int .i64) l)] [(1000, .box 85 [.sl Y0 s, .sl Y1 s_2, .bool s_3, .int .i64 s_4, .cv (.slice none 0 0)])] ?_
    obtain ⟨v0, hv71, h⟩ := Option.bind_eq_some_iff.1 h
    refine zC [] [] (hc_linealref02_isList s_2 l hv71) [(0, .bp 1000 0), (1, .sl (.int .i64) l), (2, .bool one), (13, .bool v0)] [(1000, .box 85 [.sl Y0 s, .sl Y1 s_2, .bool s_3, .int .i64 s_4, .cv (.slice none 0 0)])] ?_
    refine zB [(0, .bp 1000 0), (1, .sl (.int .i64) l), (2, .bool one), (13, .bool v0)] [(1000, .box 85 [.sl Y0 s, .sl Y1 s_2, .bool s_3, .int .i64 s_4, .cv (.slice none 0 0)])] ?_
    refine zQ h (fun hb72 h => ?_) (fun hb72 h => ?_)
    ·
      refine AW.have1 (fun b2 : (List Int) => linealref02_search_from_k2 l one s s_2 s_3 s_4 b2 = some r) (fun b2 => ⟨fr [(0, .bp 1000 0), (1, .sl (.int .i64) l), (2, .bool one)], hpGet [(22, .arr 3 (.int .i64) b2), (1000, .box 85 [.sl Y0 s, .sl Y1 s_2, .bool s_3, .int .i64 s_4, .own 22])], gt⟩) (fun b2 h => ?_) (fun hk_linealref02_search_from_k2 => ?_)
      · unfold linealref02_search_from_k2 at h
        refine AW.ops ?_
        obtain ⟨c73, h⟩ := ck_some.1 h
        refine zB [(0, .bp 1000 0), (1, .sl (.int .i64) l), (2, .bool one)] [(22, .arr 3 (.int .i64) b2), (1000, .box 85 [.sl Y0 s, .sl Y1 s_2, .bool s_3, .int .i64 (s_4 + 1), .own 22])] ?_
        refine zo ?_
        refine zB [(0, .bp 1000 0), (1, .sl (.int .i64) l), (2, .bool one), (6, .int .i64 0)] [(22, .arr 3 (.int .i64) b2), (1000, .box 85 [.sl Y0 s, .sl Y1 s_2, .bool s_3, .int .i64 (s_4 + 1), .own 22])] ?_
        exact AW.weaken (zL [] [] []) (hk_linealref02_search_from_k1 _ h)
      · refine AW.seq ?_
        refine zo ?_
        refine zB [(0, .bp 1000 0), (1, .sl (.int .i64) l), (2, .bool one), (18, .bool (decide (s_4 = 0)))] [(1000, .box 85 [.sl Y0 s, .sl Y1 s_2, .bool s_3, .int .i64 s_4, .cv (.slice none 0 0)])] ?_
        refine zQ h (fun hb74 h => ?_) (fun hb74 h => ?_)
        ·
          refine AW.ops ?_
          obtain ⟨c75, h⟩ := ck_some.1 h
          refine zB [(0, .bp 1000 0), (1, .sl (.int .i64) l), (2, .bool one)] [(22, .arr 3 (.int .i64) l), (1000, .box 85 [.sl Y0 s, .sl Y1 s_2, .bool s_3, .int .i64 s_4, .own 22])] ?_
          exact AW.weaken (zL [] [] []) (hk_linealref02_search_from_k2 _ h)
        ·
          refine zk ?_
          exact AW.weaken (zL [] [22] []) (hk_linealref02_search_from_k2 _ h)
    ·
      refine zk ?_
      refine zo ?_
      refine zB [(0, .bp 1000 0), (1, .sl (.int .i64) l), (2, .bool one), (6, .int .i64 0)] [(1000, .box 85 [.sl Y0 s, .sl Y1 s_2, .bool s_3, .int .i64 s_4, .cv (.slice none 0 0)])] ?_
      exact AW.weaken (zL [] [22] []) (hk_linealref02_search_from_k1 _ h)

theorem hc_linealref02_Order (specs : List (Int × Int × (List (List Int)) × (List (List Int)))) (h0 : List (Int × Int × Int × Int × Int × Int)) {r : (List Int) × Int} (h : linealref02_Order specs h0 = some r) : HC Try.prog 31 [] [.sl Y0 specs, .sl Y1 h0] [(2000, .arr 3 (.int .i64) r.1)] (.tup [.own 2000, .int .i64 r.2]) := by
  unfold linealref02_Order at h
  refine zH Try.func31 [.tmp 4, .tmp 5] 29 ?_
  refine zo ?_
  refine zB [(0, .sl Y0 specs), (1, .sl Y1 h0)] [] ?_
  refine zo ?_
  refine zS 2 [(0, .sl Y0 specs), (1, .sl Y1 h0), (8, .sl Y0 specs), (9, .sl Y1 h0)] [] ?_
  obtain ⟨v0, hv1, h⟩ := Option.bind_eq_some_iff.1 h
  refine zC [] [] (hc_linealref02_asked specs h0 hv1) [(0, .sl Y0 specs), (1, .sl Y1 h0), (10, .int .i64 v0)] [] ?_
  refine zB [(0, .sl Y0 specs), (1, .sl Y1 h0), (6, .int .i64 v0)] [] ?_
  refine AW.seq ?_
  refine zo ?_
  refine zB [(0, .sl Y0 specs), (1, .sl Y1 h0), (6, .int .i64 v0), (12, .bool (!(decide (v0 = 0))))] [] ?_
  refine zQ h (fun hb2 h => ?_) (fun hb2 h => ?_)
  ·
    refine zo ?_
    refine zB [(4, .cv (.slice none 0 0)), (5, .int .i64 v0)] [] ?_
    refine zr ?_
    obtain rfl := Option.some.inj h
    exact zR [] [2000] []
  ·
    refine zk ?_
    refine zo ?_
    refine zB [(7, .bp 17 0)] [(17, .box 85 [.sl Y0 specs, .sl Y1 h0, .bool false, .int .i64 0, .cv (.slice none 0 0)])] ?_
    refine zo ?_
    refine zS 1 [(7, .bp 17 0), (18, .bp 17 0)] [(17, .box 85 [.sl Y0 specs, .sl Y1 h0, .bool false, .int .i64 0, .cv (.slice none 0 0)])] ?_
    obtain ⟨v0_2, hv3, h⟩ := Option.bind_eq_some_iff.1 h
    refine zC [] [(1000, 17)] (hc_linealref02_search_from [] true specs h0 false 0 hv3) [(7, .bp 17 0)] [(17, .box 85 [.sl Y0 specs, .sl Y1 h0, .bool v0_2.1, .int .i64 v0_2.2.1, .own 29000]), (29000, .arr 3 (.int .i64) v0_2.2.2)] ?_
    refine zB [(7, .bp 17 0)] [(17, .box 85 [.sl Y0 specs, .sl Y1 h0, .bool v0_2.1, .int .i64 v0_2.2.1, .own 29000]), (29000, .arr 3 (.int .i64) v0_2.2.2)] ?_
    refine AW.seq ?_
    refine zo ?_
    refine zB [(7, .bp 17 0), (24, .bool (decide (v0_2.2.1 = 0)))] [(17, .box 85 [.sl Y0 specs, .sl Y1 h0, .bool v0_2.1, .int .i64 v0_2.2.1, .own 29000]), (29000, .arr 3 (.int .i64) v0_2.2.2)] ?_
    refine zQ h (fun hb4 h => ?_) (fun hb4 h => ?_)
    ·
      refine zo ?_
      refine zB [(4, .cv (.slice none 0 0)), (5, .int .i64 5)] [] ?_
      refine zr ?_
      obtain rfl := Option.some.inj h
      exact zR [] [2000] []
    ·
      refine zk ?_
      refine zo ?_
      refine zB [(4, .own 29000), (5, .int .i64 0)] [(29000, .arr 3 (.int .i64) v0_2.2.2)] ?_
      refine AW.ret ?_
      obtain rfl := Option.some.inj h
      exact zR [] [] [(2000, 29000)]

theorem hc_linealref02_Linear (specs : List (Int × Int × (List (List Int)) × (List (List Int)))) (h0 : List (Int × Int × Int × Int × Int × Int)) {r : Bool × Int} (h : linealref02_Linear specs h0 = some r) : HC Try.prog 36 [] [.sl Y0 specs, .sl Y1 h0] [] (.tup [.bool r.1, .int .i64 r.2]) := by
  unfold linealref02_Linear at h
  refine zH Try.func36 [.tmp 4, .tmp 5] 19 ?_
  refine zo ?_
  refine zB [(0, .sl Y0 specs), (1, .sl Y1 h0)] [] ?_
  refine zo ?_
  refine zS 2 [(9, .sl Y0 specs), (10, .sl Y1 h0)] [] ?_
  obtain ⟨v0, hv1, h⟩ := Option.bind_eq_some_iff.1 h
  refine zC [] [] (hc_linealref02_Order specs h0 hv1) [(11, .tup [.own 21000, .int .i64 v0.2])] [(21000, .arr 3 (.int .i64) v0.1)] ?_
  refine zB [(7, .int .i64 v0.2)] [] ?_
  refine AW.seq ?_
  refine zo ?_
  refine zB [(7, .int .i64 v0.2), (15, .bool (decide (v0.2 = 5)))] [] ?_
  refine zQ h (fun hb2 h => ?_) (fun hb2 h => ?_)
  ·
    refine zo ?_
    refine zB [(4, .bool false), (5, .int .i64 0)] [] ?_
    refine zr ?_
    obtain rfl := Option.some.inj h
    exact zR [] [] []
  ·
    refine zk ?_
    refine zo ?_
    refine zB [(4, .bool (decide (v0.2 = 0))), (5, .int .i64 v0.2)] [] ?_
    refine AW.ret ?_
    obtain rfl := Option.some.inj h
    exact zR [] [] []

theorem hc_history_newSearch_2 (specs : List (Int × Int × (List (List Int)) × (List (List Int)))) (h0 : List (Int × Int × Int × Int × Int × Int)) {r : Unit} (h : history_newSearch_2 specs h0 = some r) : HC Try.prog 86 [] [.sl Y0 specs, .sl Y1 h0, .fn (.func 91) [] []] [(2000, .map true false (.pair (.pair (.int .i64) (.int .i64)) (.int .u64)) (.int .i64) [])] (.agg [.sl Y0 specs, .sl Y1 h0, .fn (.func 91) [] [], .own 2000]) := by
  unfold history_newSearch_2 at h
  refine zH Try.func86 [.cell 6 76] 12 ?_
  refine zo ?_
  refine zB [(0, .sl Y0 specs), (1, .sl Y1 h0), (2, .fn (.func 91) [] []), (6, .bp 6 0)] [(6, .box 76 [.cv (.slice none 0 0), .cv (.slice none 0 0), .cv (.nilFunc), .cv (.map none)])] ?_
  refine zo ?_
  refine zS 3 [(6, .bp 6 0), (7, .sl Y0 specs), (8, .sl Y1 h0), (9, .fn (.func 91) [] [])] [(6, .box 76 [.cv (.slice none 0 0), .cv (.slice none 0 0), .cv (.nilFunc), .cv (.map none)])] ?_
  refine AO.makeMap (ak := true) (ae := false) (kt := (.pair (.pair (.int .i64) (.int .i64)) (.int .u64))) (vt := (.int .i64)) (by decide) (by decide) rfl rfl ?_
  refine zT [(6, .bp 6 0), (7, .sl Y0 specs), (8, .sl Y1 h0), (9, .fn (.func 91) [] []), (10, .own 10)] [(6, .box 76 [.cv (.slice none 0 0), .cv (.slice none 0 0), .cv (.nilFunc), .cv (.map none)]), (10, .map true false (.pair (.pair (.int .i64) (.int .i64)) (.int .u64)) (.int .i64) [])] gt ?_
  refine zB [(6, .bp 6 0)] [(6, .box 76 [.sl Y0 specs, .sl Y1 h0, .fn (.func 91) [] [], .own 10]), (10, .map true false (.pair (.pair (.int .i64) (.int .i64)) (.int .u64)) (.int .i64) [])] ?_
  refine AW.ret ?_
  obtain rfl := Option.some.inj h
  exact zR [] [] [(2000, 10)]

theorem hc_history_search_full_2 (s : List (Int × Int × (List (List Int)) × (List (List Int)))) (s_2 : List (Int × Int × Int × Int × Int × Int)) (at0 : (Int × Int) × Int) {r : Bool} (h : history_search_full_2 s s_2 at0 = some r) : HC Try.prog 118 [] [.agg [.sl Y0 s, .sl Y1 s_2, .fn (.func 91) [] [], .one], .agg [.int .i64 at0.1.1, .int .i64 at0.1.2, .int .u64 at0.2]] [] (.bool r) := by
  unfold history_search_full_2 at h
  refine zH Try.func118 [.tmp 4] 25 ?_
  refine zo ?_
  refine zB [(2, .bp 2 0), (3, .bp 3 0)] [(2, .box 76 [.sl Y0 s, .sl Y1 s_2, .fn (.func 91) [] [], .one]), (3, .box 95 [.int .i64 at0.1.1, .int .i64 at0.1.2, .int .u64 at0.2])] ?_
  refine AW.have1 (fun _ : Unit => history_search_full_2_k1 = some r) (fun _ => ⟨fr [], hpGet [], gt⟩) (fun _ h => ?_) (fun hk_history_search_full_2_k1 => ?_)
  · unfold history_search_full_2_k1 at h
    refine zo ?_
    refine zB [(4, .bool true)] [] ?_
    refine AW.ret ?_
    obtain rfl := Option.some.inj h
    exact zR [] [] []
  · refine AW.seq ?_
    refine zo ?_
    refine zB [(3, .bp 3 0), (8, .sl Y1 s_2), (9, .int .i64 (s_2.length : Int)), (10, .int .i64 0)] [(3, .box 95 [.int .i64 at0.1.1, .int .i64 at0.1.2, .int .u64 at0.2])] ?_
    refine AW.block ?_
    obtain ⟨rv5, hw1, ho2⟩ := Option.bind_eq_some_iff.1 h
    refine AW.loopO (history_search_full_2_b1 s_2 at0) (fun st1 => ⟨fr [(3, .bp 3 0), (8, .sl Y1 s_2), (9, .int .i64 (s_2.length : Int)), (10, .int .i64 st1)], hpGet [(3, .box 95 [.int .i64 at0.1.1, .int .i64 at0.1.2, .int .u64 at0.2])], gt⟩) 0 hw1 (zL [] [] []) ?_
    intro st1 x4 h hd3
    unfold history_search_full_2_b1 at h
    refine zo ?_
    refine zB [(3, .bp 3 0), (8, .sl Y1 s_2), (9, .int .i64 (s_2.length : Int)), (10, .int .i64 st1), (11, .bool (decide (st1 < (s_2.length : Int))))] [(3, .box 95 [.int .i64 at0.1.1, .int .i64 at0.1.2, .int .u64 at0.2])] ?_
    refine AW.seq ?_
    refine zQ h (fun hb6 h => ?_) (fun hb6 h => ?_)
    ·
      refine zk ?_
      refine AW.seq ?_
      refine AW.block ?_
      refine zo ?_
      obtain ⟨c7, h⟩ := ck_some.1 h
      obtain ⟨c8, h⟩ := ck_some.1 h
      refine zB [(3, .bp 3 0), (5, .int .i64 st1), (6, .bp 6 0), (8, .sl Y1 s_2), (9, .int .i64 (s_2.length : Int)), (10, .int .i64 st1)] [(3, .box 95 [.int .i64 at0.1.1, .int .i64 at0.1.2, .int .u64 at0.2]), (6, .box 55 [.int .i64 (s_2.getD st1.toNat (0, 0, 0, 0, 0, 0)).1, .int .i64 (s_2.getD st1.toNat (0, 0, 0, 0, 0, 0)).2.1, .int .i64 (s_2.getD st1.toNat (0, 0, 0, 0, 0, 0)).2.2.1, .int .i64 (s_2.getD st1.toNat (0, 0, 0, 0, 0, 0)).2.2.2.1, .int .i64 (s_2.getD st1.toNat (0, 0, 0, 0, 0, 0)).2.2.2.2.1, .int .i64 (s_2.getD st1.toNat (0, 0, 0, 0, 0, 0)).2.2.2.2.2])] ?_
      refine zo ?_
      refine zS 4 [(3, .bp 3 0), (5, .int .i64 st1), (8, .sl Y1 s_2), (9, .int .i64 (s_2.length : Int)), (10, .int .i64 st1), (18, .bool (!(decide ((s_2.getD st1.toNat (0, 0, 0, 0, 0, 0)).2.2.2.2.2 = 0))))] [(3, .box 95 [.int .i64 at0.1.1, .int .i64 at0.1.2, .int .u64 at0.2])] ?_
      rcases zI h with ⟨hb9, h⟩ | ⟨hb9, h⟩
      ·
        refine zT [(3, .bp 3 0), (5, .int .i64 st1), (8, .sl Y1 s_2), (9, .int .i64 (s_2.length : Int)), (10, .int .i64 st1), (18, .bool true)] [(3, .box 95 [.int .i64 at0.1.1, .int .i64 at0.1.2, .int .u64 at0.2])] gt ?_
        refine zS 2 [(3, .bp 3 0), (8, .sl Y1 s_2), (9, .int .i64 (s_2.length : Int)), (10, .int .i64 st1), (18, .bool true), (19, .agg [.int .i64 at0.1.1, .int .i64 at0.1.2, .int .u64 at0.2]), (20, .int .i64 st1)] [(3, .box 95 [.int .i64 at0.1.1, .int .i64 at0.1.2, .int .u64 at0.2])] ?_
        obtain ⟨v0, hv10, h⟩ := Option.bind_eq_some_iff.1 h
        refine zG [] [] (hc_history_place_has at0 st1 hv10) [(3, .bp 3 0), (8, .sl Y1 s_2), (9, .int .i64 (s_2.length : Int)), (10, .int .i64 st1), (18, .bool true), (21, .bool (!(decide ((iand .u64 at0.2 (ishl .u64 1 st1)) = 0))))] [(3, .box 95 [.int .i64 at0.1.1, .int .i64 at0.1.2, .int .u64 at0.2])] ?_
        refine zB [(3, .bp 3 0), (8, .sl Y1 s_2), (9, .int .i64 (s_2.length : Int)), (10, .int .i64 st1), (23, .bool (!(!(decide ((iand .u64 at0.2 (ishl .u64 1 st1)) = 0)))))] [(3, .box 95 [.int .i64 at0.1.1, .int .i64 at0.1.2, .int .u64 at0.2])] ?_
        refine zQ h (fun hb11 h => ?_) (fun hb11 h => ?_)
        ·
          refine zo ?_
          refine zB [(4, .bool false)] [] ?_
          refine AW.ret ?_
          refine ablock_r ?_
          refine athen_r ?_
          obtain rfl := Option.some.inj h
          rw [← hd3 _ rfl] at ho2
          have h := ho2
          try simp only at h
          refine athen_r ?_
          refine ablock_r ?_
          refine athen_r ?_
          obtain rfl := Option.some.inj h
          exact zR [] [] []
        ·
          refine zm ?_
          refine athen_n ?_
          refine AW.ops ?_
          obtain ⟨c12, h⟩ := ck_some.1 h
          refine zA [(3, .bp 3 0), (8, .sl Y1 s_2), (9, .int .i64 (s_2.length : Int)), (10, .int .i64 (st1 + 1))] [(3, .box 95 [.int .i64 at0.1.1, .int .i64 at0.1.2, .int .u64 at0.2])] ?_
          obtain rfl := Option.some.inj h
          exact ⟨_, rfl, zL [] [] []⟩
      ·
        refine zT [(3, .bp 3 0), (5, .int .i64 st1), (8, .sl Y1 s_2), (9, .int .i64 (s_2.length : Int)), (10, .int .i64 st1), (18, .bool false)] [(3, .box 95 [.int .i64 at0.1.1, .int .i64 at0.1.2, .int .u64 at0.2])] gt ?_
        refine zS 4 [(3, .bp 3 0), (8, .sl Y1 s_2), (9, .int .i64 (s_2.length : Int)), (10, .int .i64 st1), (18, .bool false), (22, .cv (undef))] [(3, .box 95 [.int .i64 at0.1.1, .int .i64 at0.1.2, .int .u64 at0.2])] ?_
        refine zB [(3, .bp 3 0), (8, .sl Y1 s_2), (9, .int .i64 (s_2.length : Int)), (10, .int .i64 st1), (23, .bool false)] [(3, .box 95 [.int .i64 at0.1.1, .int .i64 at0.1.2, .int .u64 at0.2])] ?_
        refine AW.cond (b := false) rfl (fun hb13 => by cases hb13) (fun _ => ?_)
        refine zm ?_
        refine athen_n ?_
        refine AW.ops ?_
        obtain ⟨c14, h⟩ := ck_some.1 h
        refine zA [(3, .bp 3 0), (8, .sl Y1 s_2), (9, .int .i64 (s_2.length : Int)), (10, .int .i64 (st1 + 1))] [(3, .box 95 [.int .i64 at0.1.1, .int .i64 at0.1.2, .int .u64 at0.2])] ?_
        obtain rfl := Option.some.inj h
        exact ⟨_, rfl, zL [] [] []⟩
    ·
      refine AW.exit ?_
      refine athen_e ?_
      obtain rfl := Option.some.inj h
      rw [← hd3 _ rfl] at ho2
      have h := ho2
      try simp only at h
      refine athen_e ?_
      refine ablock_s ?_
      refine athen_n ?_
      exact AW.weaken (zL [] [] []) (hk_history_search_full_2_k1 () h)

theorem hc_history_search_steps_2 (s : List (Int × Int × (List (List Int)) × (List (List Int)))) (s_2 : List (Int × Int × Int × Int × Int × Int)) (at0 : (Int × Int) × Int) {r : Unit} (h : history_search_steps_2 s s_2 at0 = some r) : HC Try.prog 119 [] [.agg [.sl Y0 s, .sl Y1 s_2, .fn (.func 91) [] [], .one], .agg [.int .i64 at0.1.1, .int .i64 at0.1.2, .int .u64 at0.2]] [(2000, .box 76 [.sl Y0 s, .sl Y1 s_2, .fn (.func 91) [] [], .one]), (2001, .box 95 [.int .i64 at0.1.1, .int .i64 at0.1.2, .int .u64 at0.2])] (.fn (.func 127) [] [.bp 2000 0, .bp 2001 0]) := by
  unfold history_search_steps_2 at h
  refine zH Try.func119 [.tmp 4] 6 ?_
  refine zo ?_
  refine zB [(2, .bp 2 0), (3, .bp 3 0)] [(2, .box 76 [.sl Y0 s, .sl Y1 s_2, .fn (.func 91) [] [], .one]), (3, .box 95 [.int .i64 at0.1.1, .int .i64 at0.1.2, .int .u64 at0.2])] ?_
  refine zo ?_
  refine zB [(4, .fn (.func 127) [] [.bp 2 0, .bp 3 0])] [(2, .box 76 [.sl Y0 s, .sl Y1 s_2, .fn (.func 91) [] [], .one]), (3, .box 95 [.int .i64 at0.1.1, .int .i64 at0.1.2, .int .u64 at0.2])] ?_
  refine AW.ret ?_
  obtain rfl := Option.some.inj h
  exact zR [] [] [(2000, 2), (2001, 3)]

end Go.Proofs.Ytlfpagicagmjgaa
