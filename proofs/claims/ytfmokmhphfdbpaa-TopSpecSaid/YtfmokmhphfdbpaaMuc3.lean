/-
  Made by wip/tool/dc.py out of the print of the program: contracts.
-/
import Derived.Test.YtfmokmhphfdbpaaQp
import Derived.Test.YtfmokmhphfdbpaaShs
import Derived.Test.YtfmokmhphfdbpaaMuc1
import Derived.Test.YtfmokmhphfdbpaaMuc2
namespace Go.Proofs.Ytfmokmhphfdbpaa
open Go.RowKit

set_option linter.unusedSimpArgs false
set_option linter.unusedVariables false
set_option linter.constructorNameAsVariable false

set_option maxRecDepth 100000
set_option maxHeartbeats 2000000

theorem hc_linealref01_SameLists (a : List (List Int)) (b : List (List Int)) {r : Bool} (h : linealref01_SameLists a b = some r) : HC Try.prog 81 [] [.sl (.sl (.int .i64)) a, .sl (.sl (.int .i64)) b] [] (.bool r) := by
  unfold linealref01_SameLists at h
  refine zH Try.func81 [.tmp 4] 27 ?_
  refine zo ?_
  refine zB [(0, .sl (.sl (.int .i64)) a), (1, .sl (.sl (.int .i64)) b)] [] ?_
  refine AW.seq ?_
  refine zo ?_
  refine zB [(0, .sl (.sl (.int .i64)) a), (1, .sl (.sl (.int .i64)) b), (10, .bool (!(decide ((a.length : Int) = (b.length : Int)))))] [] ?_
  refine zQ h (fun hb1 h => ?_) (fun hb1 h => ?_)
  ·
    refine zo ?_
    refine zB [(4, .bool false)] [] ?_
    refine zr ?_
    obtain rfl := Option.some.inj h
    exact zR [] [] []
  ·
    refine zk ?_
    refine AW.have1 (fun _ : Unit => linealref01_SameLists_k1 = some r) (fun _ => ⟨fr [], hpGet [], gt⟩) (fun _ h => ?_) (fun hk_linealref01_SameLists_k1 => ?_)
    · unfold linealref01_SameLists_k1 at h
      refine zo ?_
      refine zB [(4, .bool true)] [] ?_
      refine AW.ret ?_
      obtain rfl := Option.some.inj h
      exact zR [] [] []
    · refine AW.seq ?_
      refine zo ?_
      refine zB [(0, .sl (.sl (.int .i64)) a), (1, .sl (.sl (.int .i64)) b), (12, .int .i64 (a.length : Int)), (13, .int .i64 0)] [] ?_
      refine AW.block ?_
      obtain ⟨rv6, hw2, ho3⟩ := Option.bind_eq_some_iff.1 h
      refine AW.loopO (linealref01_SameLists_b1 a b) (fun st1 => ⟨fr [(0, .sl (.sl (.int .i64)) a), (1, .sl (.sl (.int .i64)) b), (12, .int .i64 (a.length : Int)), (13, .int .i64 st1)], hpGet [], gt⟩) 0 hw2 (zL [] [] []) ?_
      intro st1 x5 h hd4
      unfold linealref01_SameLists_b1 at h
      refine zo ?_
      refine zB [(0, .sl (.sl (.int .i64)) a), (1, .sl (.sl (.int .i64)) b), (12, .int .i64 (a.length : Int)), (13, .int .i64 st1), (14, .bool (decide (st1 < (a.length : Int))))] [] ?_
      refine AW.seq ?_
      refine zQ h (fun hb7 h => ?_) (fun hb7 h => ?_)
      ·
        refine zk ?_
        refine AW.seq ?_
        refine AW.block ?_
        refine zo ?_
        refine zB [(0, .sl (.sl (.int .i64)) a), (1, .sl (.sl (.int .i64)) b), (5, .int .i64 st1), (12, .int .i64 (a.length : Int)), (13, .int .i64 st1)] [] ?_
        refine AW.seq ?_
        refine AW.draw tab_ok mixed_ok [] [] (by decide) (by kernel_rfl) ?_
        obtain ⟨c9, h⟩ := ck_some.1 h
        obtain ⟨c10, h⟩ := ck_some.1 h
        refine adops_cut 6 (fun K' hK8 => ?_)
        try dsimp only [List.drop_succ_cons, List.drop_zero, List.take_succ_cons, List.take_zero]
        simp only [go_sem, hb1, hb7]
        repeat (with_reducible refine And.intro (by first | assumption | rfl | omega | trivial | (unfold maxLen; omega)) ?_)
        refine hK8 _ ?_
        obtain ⟨c12, h⟩ := ck_some.1 h
        obtain ⟨c13, h⟩ := ck_some.1 h
        refine adops_cut 2 (fun K' hK11 => ?_)
        try dsimp only [List.drop_succ_cons, List.drop_zero, List.take_succ_cons, List.take_zero]
        simp only [go_sem, hb1, hb7]
        repeat (with_reducible refine And.intro (by first | assumption | rfl | omega | trivial | (unfold maxLen; omega)) ?_)
        refine hK11 _ ?_
        obtain ⟨v0, hv14, h⟩ := Option.bind_eq_some_iff.1 h
        refine adops.call (by first | trivial | rfl) rfl rfl rfl (fun _ h => h) [] [] (hc_linealref01_SameInts (a.getD st1.toNat []) (b.getD st1.toNat []) hv14) rfl (by (simp only [go_sem, hb1, hb7]) <;> (with_reducible and_intros) <;> first | assumption | rfl | omega | (unfold maxLen; omega)) (by (simp only [go_sem, hb1, hb7]) <;> (with_reducible and_intros) <;> first | assumption | rfl | omega | (unfold maxLen; omega)) rfl ?_
        refine adops_cut 1 (fun K' hK15 => ?_)
        try dsimp only [List.drop_succ_cons, List.drop_zero, List.take_succ_cons, List.take_zero]
        simp only [go_sem, hb1, hb7]
        repeat (with_reducible refine And.intro (by first | assumption | rfl | omega | trivial | (unfold maxLen; omega)) ?_)
        refine hK15 _ ?_
        refine adops_nil ?_
        refine athen_n ?_
        refine zV [(0, .sl (.sl (.int .i64)) a), (1, .sl (.sl (.int .i64)) b), (12, .int .i64 (a.length : Int)), (13, .int .i64 st1), (25, .bool (!v0))] [] gt ?_
        refine zQ h (fun hb16 h => ?_) (fun hb16 h => ?_)
        ·
          refine zo ?_
          refine zB [(4, .bool false)] [] ?_
          refine AW.ret ?_
          refine ablock_r ?_
          refine athen_r ?_
          obtain rfl := Option.some.inj h
          rw [← hd4 _ rfl] at ho3
          have h := ho3
          try simp only at h
          refine athen_r ?_
          refine ablock_r ?_
          refine athen_r ?_
          obtain rfl := Option.some.inj h
          exact zR [] [] []
        ·
          refine zm ?_
          refine athen_n ?_
          refine AW.ops ?_
          obtain ⟨c17, h⟩ := ck_some.1 h
          refine zA [(0, .sl (.sl (.int .i64)) a), (1, .sl (.sl (.int .i64)) b), (12, .int .i64 (a.length : Int)), (13, .int .i64 (st1 + 1))] [] ?_
          obtain rfl := Option.some.inj h
          exact ⟨_, rfl, zL [] [] []⟩
      ·
        refine AW.exit ?_
        refine athen_e ?_
        obtain rfl := Option.some.inj h
        rw [← hd4 _ rfl] at ho3
        have h := ho3
        try simp only at h
        refine athen_e ?_
        refine ablock_s ?_
        refine athen_n ?_
        exact AW.weaken (zL [] [] []) (hk_linealref01_SameLists_k1 () h)

theorem hc_linealref01_Equal (a : Int × Int × (List (List Int)) × (List (List Int))) (b : Int × Int × (List (List Int)) × (List (List Int))) {r : Bool} (h : linealref01_Equal a b = some r) : HC Try.prog 37 [] [.agg [.int .i64 a.1, .int .i64 a.2.1, .sl (.sl (.int .i64)) a.2.2.1, .sl (.sl (.int .i64)) a.2.2.2], .agg [.int .i64 b.1, .int .i64 b.2.1, .sl (.sl (.int .i64)) b.2.2.1, .sl (.sl (.int .i64)) b.2.2.2]] [] (.bool r) := by
  unfold linealref01_Equal at h
  refine zH Try.func37 [.tmp 4] 31 ?_
  refine zo ?_
  refine zB [(2, .bp 2 0), (3, .bp 3 0)] [(2, .box 24 [.int .i64 a.1, .int .i64 a.2.1, .sl (.sl (.int .i64)) a.2.2.1, .sl (.sl (.int .i64)) a.2.2.2]), (3, .box 24 [.int .i64 b.1, .int .i64 b.2.1, .sl (.sl (.int .i64)) b.2.2.1, .sl (.sl (.int .i64)) b.2.2.2])] ?_
  refine zo ?_
  refine zS 6 [(2, .bp 2 0), (3, .bp 3 0), (10, .bool (decide (a.1 = b.1)))] [(2, .box 24 [.int .i64 a.1, .int .i64 a.2.1, .sl (.sl (.int .i64)) a.2.2.1, .sl (.sl (.int .i64)) a.2.2.2]), (3, .box 24 [.int .i64 b.1, .int .i64 b.2.1, .sl (.sl (.int .i64)) b.2.2.1, .sl (.sl (.int .i64)) b.2.2.2])] ?_
  rcases zI h with ⟨hb1, h⟩ | ⟨hb1, h⟩
  ·
    refine zT [(2, .bp 2 0), (3, .bp 3 0), (10, .bool true)] [(2, .box 24 [.int .i64 a.1, .int .i64 a.2.1, .sl (.sl (.int .i64)) a.2.2.1, .sl (.sl (.int .i64)) a.2.2.2]), (3, .box 24 [.int .i64 b.1, .int .i64 b.2.1, .sl (.sl (.int .i64)) b.2.2.1, .sl (.sl (.int .i64)) b.2.2.2])] gt ?_
    refine zS 7 [(2, .bp 2 0), (3, .bp 3 0), (17, .bool (decide (a.2.1 = b.2.1)))] [(2, .box 24 [.int .i64 a.1, .int .i64 a.2.1, .sl (.sl (.int .i64)) a.2.2.1, .sl (.sl (.int .i64)) a.2.2.2]), (3, .box 24 [.int .i64 b.1, .int .i64 b.2.1, .sl (.sl (.int .i64)) b.2.2.1, .sl (.sl (.int .i64)) b.2.2.2])] ?_
    rcases zI h with ⟨hb2, h⟩ | ⟨hb2, h⟩
    ·
      refine zT [(2, .bp 2 0), (3, .bp 3 0), (17, .bool true)] [(2, .box 24 [.int .i64 a.1, .int .i64 a.2.1, .sl (.sl (.int .i64)) a.2.2.1, .sl (.sl (.int .i64)) a.2.2.2]), (3, .box 24 [.int .i64 b.1, .int .i64 b.2.1, .sl (.sl (.int .i64)) b.2.2.1, .sl (.sl (.int .i64)) b.2.2.2])] gt ?_
      refine zS 4 [(2, .bp 2 0), (3, .bp 3 0), (17, .bool true), (19, .sl (.sl (.int .i64)) a.2.2.1), (21, .sl (.sl (.int .i64)) b.2.2.1)] [(2, .box 24 [.int .i64 a.1, .int .i64 a.2.1, .sl (.sl (.int .i64)) a.2.2.1, .sl (.sl (.int .i64)) a.2.2.2]), (3, .box 24 [.int .i64 b.1, .int .i64 b.2.1, .sl (.sl (.int .i64)) b.2.2.1, .sl (.sl (.int .i64)) b.2.2.2])] ?_
      obtain ⟨v0, hv3, h⟩ := Option.bind_eq_some_iff.1 h
      refine zG [] [] (hc_linealref01_SameLists a.2.2.1 b.2.2.1 hv3) [(2, .bp 2 0), (3, .bp 3 0), (17, .bool true), (22, .bool v0)] [(2, .box 24 [.int .i64 a.1, .int .i64 a.2.1, .sl (.sl (.int .i64)) a.2.2.1, .sl (.sl (.int .i64)) a.2.2.2]), (3, .box 24 [.int .i64 b.1, .int .i64 b.2.1, .sl (.sl (.int .i64)) b.2.2.1, .sl (.sl (.int .i64)) b.2.2.2])] ?_
      refine zS 2 [(2, .bp 2 0), (3, .bp 3 0), (24, .bool v0)] [(2, .box 24 [.int .i64 a.1, .int .i64 a.2.1, .sl (.sl (.int .i64)) a.2.2.1, .sl (.sl (.int .i64)) a.2.2.2]), (3, .box 24 [.int .i64 b.1, .int .i64 b.2.1, .sl (.sl (.int .i64)) b.2.2.1, .sl (.sl (.int .i64)) b.2.2.2])] ?_
      rcases zI h with ⟨hb4, h⟩ | ⟨hb4, h⟩
      ·
        refine zT [(2, .bp 2 0), (3, .bp 3 0), (24, .bool true)] [(2, .box 24 [.int .i64 a.1, .int .i64 a.2.1, .sl (.sl (.int .i64)) a.2.2.1, .sl (.sl (.int .i64)) a.2.2.2]), (3, .box 24 [.int .i64 b.1, .int .i64 b.2.1, .sl (.sl (.int .i64)) b.2.2.1, .sl (.sl (.int .i64)) b.2.2.2])] gt ?_
        refine zS 4 [(24, .bool true), (26, .sl (.sl (.int .i64)) a.2.2.2), (28, .sl (.sl (.int .i64)) b.2.2.2)] [] ?_
        obtain ⟨v0_2, hv5, h⟩ := Option.bind_eq_some_iff.1 h
        refine zG [] [] (hc_linealref01_SameLists a.2.2.2 b.2.2.2 hv5) [(24, .bool true), (29, .bool v0_2)] [] ?_
        refine zB [(4, .bool v0_2)] [] ?_
        refine AW.ret ?_
        obtain rfl := Option.some.inj h
        exact zR [] [] []
      ·
        refine zT [(2, .bp 2 0), (3, .bp 3 0), (24, .bool false)] [(2, .box 24 [.int .i64 a.1, .int .i64 a.2.1, .sl (.sl (.int .i64)) a.2.2.1, .sl (.sl (.int .i64)) a.2.2.2]), (3, .box 24 [.int .i64 b.1, .int .i64 b.2.1, .sl (.sl (.int .i64)) b.2.2.1, .sl (.sl (.int .i64)) b.2.2.2])] gt ?_
        refine zS 4 [(24, .bool false), (26, .cv (undef)), (28, .cv (undef))] [] ?_
        refine zB [(4, .bool false)] [] ?_
        refine AW.ret ?_
        obtain rfl := Option.some.inj h
        exact zR [] [] []
    ·
      refine zT [(2, .bp 2 0), (3, .bp 3 0), (17, .bool false)] [(2, .box 24 [.int .i64 a.1, .int .i64 a.2.1, .sl (.sl (.int .i64)) a.2.2.1, .sl (.sl (.int .i64)) a.2.2.2]), (3, .box 24 [.int .i64 b.1, .int .i64 b.2.1, .sl (.sl (.int .i64)) b.2.2.1, .sl (.sl (.int .i64)) b.2.2.2])] gt ?_
      refine zS 4 [(2, .bp 2 0), (3, .bp 3 0), (17, .bool false), (19, .cv (undef)), (21, .cv (undef))] [(2, .box 24 [.int .i64 a.1, .int .i64 a.2.1, .sl (.sl (.int .i64)) a.2.2.1, .sl (.sl (.int .i64)) a.2.2.2]), (3, .box 24 [.int .i64 b.1, .int .i64 b.2.1, .sl (.sl (.int .i64)) b.2.2.1, .sl (.sl (.int .i64)) b.2.2.2])] ?_
      refine zS 6 [(24, .bool false), (26, .cv (undef)), (27, .cv (undef))] [] ?_
      refine zB [(4, .bool false)] [] ?_
      refine AW.ret ?_
      obtain rfl := Option.some.inj h
      exact zR [] [] []
  ·
    refine zT [(2, .bp 2 0), (3, .bp 3 0), (10, .bool false)] [(2, .box 24 [.int .i64 a.1, .int .i64 a.2.1, .sl (.sl (.int .i64)) a.2.2.1, .sl (.sl (.int .i64)) a.2.2.2]), (3, .box 24 [.int .i64 b.1, .int .i64 b.2.1, .sl (.sl (.int .i64)) b.2.2.1, .sl (.sl (.int .i64)) b.2.2.2])] gt ?_
    refine zS 4 [(2, .bp 2 0), (3, .bp 3 0), (10, .bool false), (12, .cv (undef)), (14, .cv (undef))] [(2, .box 24 [.int .i64 a.1, .int .i64 a.2.1, .sl (.sl (.int .i64)) a.2.2.1, .sl (.sl (.int .i64)) a.2.2.2]), (3, .box 24 [.int .i64 b.1, .int .i64 b.2.1, .sl (.sl (.int .i64)) b.2.2.1, .sl (.sl (.int .i64)) b.2.2.2])] ?_
    refine zS 6 [(2, .bp 2 0), (3, .bp 3 0), (17, .bool false), (19, .cv (undef)), (20, .cv (undef))] [(2, .box 24 [.int .i64 a.1, .int .i64 a.2.1, .sl (.sl (.int .i64)) a.2.2.1, .sl (.sl (.int .i64)) a.2.2.2]), (3, .box 24 [.int .i64 b.1, .int .i64 b.2.1, .sl (.sl (.int .i64)) b.2.2.1, .sl (.sl (.int .i64)) b.2.2.2])] ?_
    refine zS 6 [(3, .bp 3 0), (24, .bool false), (26, .cv (undef))] [(3, .box 24 [.int .i64 b.1, .int .i64 b.2.1, .sl (.sl (.int .i64)) b.2.2.1, .sl (.sl (.int .i64)) b.2.2.2])] ?_
    refine zB [(4, .bool false)] [] ?_
    refine AW.ret ?_
    obtain rfl := Option.some.inj h
    exact zR [] [] []

theorem hc_linealref01_IsOp (s : Int × Int × (List (List Int)) × (List (List Int))) (n : Int) {r : Bool} (h : linealref01_IsOp s n = some r) : HC Try.prog 93 [] [.agg [.int .i64 s.1, .int .i64 s.2.1, .sl (.sl (.int .i64)) s.2.2.1, .sl (.sl (.int .i64)) s.2.2.2], .int .i64 n] [] (.bool r) := by
  unfold linealref01_IsOp at h
  refine zH Try.func93 [.tmp 4] 13 ?_
  refine zo ?_
  refine zB [(1, .int .i64 n), (2, .bp 2 0)] [(2, .box 24 [.int .i64 s.1, .int .i64 s.2.1, .sl (.sl (.int .i64)) s.2.2.1, .sl (.sl (.int .i64)) s.2.2.2])] ?_
  refine zo ?_
  refine zS 3 [(1, .int .i64 n), (2, .bp 2 0), (7, .bool (decide (0 ≤ n)))] [(2, .box 24 [.int .i64 s.1, .int .i64 s.2.1, .sl (.sl (.int .i64)) s.2.2.1, .sl (.sl (.int .i64)) s.2.2.2])] ?_
  rcases zI h with ⟨hb1, h⟩ | ⟨hb1, h⟩
  ·
    refine zT [(1, .int .i64 n), (2, .bp 2 0), (7, .bool true)] [(2, .box 24 [.int .i64 s.1, .int .i64 s.2.1, .sl (.sl (.int .i64)) s.2.2.1, .sl (.sl (.int .i64)) s.2.2.2])] gt ?_
    refine zB [(4, .bool (decide (n < s.2.1)))] [] ?_
    refine AW.ret ?_
    obtain rfl := Option.some.inj h
    exact zR [] [] []
  ·
    refine zT [(1, .int .i64 n), (2, .bp 2 0), (7, .bool false)] [(2, .box 24 [.int .i64 s.1, .int .i64 s.2.1, .sl (.sl (.int .i64)) s.2.2.1, .sl (.sl (.int .i64)) s.2.2.2])] gt ?_
    refine zS 4 [(7, .bool false), (11, .cv (undef))] [] ?_
    refine zB [(4, .bool false)] [] ?_
    refine AW.ret ?_
    obtain rfl := Option.some.inj h
    exact zR [] [] []

theorem hc_linealref01_IsWord (s : Int × Int × (List (List Int)) × (List (List Int))) (word : List Int) {r : Bool} (h : linealref01_IsWord s word = some r) : HC Try.prog 54 [] [.agg [.int .i64 s.1, .int .i64 s.2.1, .sl (.sl (.int .i64)) s.2.2.1, .sl (.sl (.int .i64)) s.2.2.2], .sl (.int .i64) word] [] (.bool r) := by
  unfold linealref01_IsWord at h
  refine zH Try.func54 [.tmp 4] 21 ?_
  refine zo ?_
  refine zB [(1, .sl (.int .i64) word), (2, .bp 2 0)] [(2, .box 24 [.int .i64 s.1, .int .i64 s.2.1, .sl (.sl (.int .i64)) s.2.2.1, .sl (.sl (.int .i64)) s.2.2.2])] ?_
  refine AW.have1 (fun _ : Unit => linealref01_IsWord_k1 word = some r) (fun _ => ⟨fr [(1, .sl (.int .i64) word)], hpGet [], gt⟩) (fun _ h => ?_) (fun hk_linealref01_IsWord_k1 => ?_)
  · unfold linealref01_IsWord_k1 at h
    refine zo ?_
    refine zB [(4, .bool (decide ((word.length : Int) ≤ 20)))] [] ?_
    refine AW.ret ?_
    obtain rfl := Option.some.inj h
    exact zR [] [] []
  · refine AW.seq ?_
    refine zo ?_
    refine zB [(1, .sl (.int .i64) word), (2, .bp 2 0), (7, .sl (.int .i64) word), (8, .int .i64 (word.length : Int)), (9, .int .i64 0)] [(2, .box 24 [.int .i64 s.1, .int .i64 s.2.1, .sl (.sl (.int .i64)) s.2.2.1, .sl (.sl (.int .i64)) s.2.2.2])] ?_
    refine AW.block ?_
    obtain ⟨rv5, hw1, ho2⟩ := Option.bind_eq_some_iff.1 h
    refine AW.loopO (linealref01_IsWord_b1 s word) (fun st1 => ⟨fr [(1, .sl (.int .i64) word), (2, .bp 2 0), (7, .sl (.int .i64) word), (8, .int .i64 (word.length : Int)), (9, .int .i64 st1)], hpGet [(2, .box 24 [.int .i64 s.1, .int .i64 s.2.1, .sl (.sl (.int .i64)) s.2.2.1, .sl (.sl (.int .i64)) s.2.2.2])], gt⟩) 0 hw1 (zL [] [] []) ?_
    intro st1 x4 h hd3
    unfold linealref01_IsWord_b1 at h
    refine zo ?_
    refine zB [(1, .sl (.int .i64) word), (2, .bp 2 0), (7, .sl (.int .i64) word), (8, .int .i64 (word.length : Int)), (9, .int .i64 st1), (10, .bool (decide (st1 < (word.length : Int))))] [(2, .box 24 [.int .i64 s.1, .int .i64 s.2.1, .sl (.sl (.int .i64)) s.2.2.1, .sl (.sl (.int .i64)) s.2.2.2])] ?_
    refine AW.seq ?_
    refine zQ h (fun hb6 h => ?_) (fun hb6 h => ?_)
    ·
      refine zk ?_
      refine AW.seq ?_
      refine AW.block ?_
      refine zo ?_
      obtain ⟨c7, h⟩ := ck_some.1 h
      obtain ⟨c8, h⟩ := ck_some.1 h
      refine zB [(1, .sl (.int .i64) word), (2, .bp 2 0), (6, .int .i64 (word.getD st1.toNat 0)), (7, .sl (.int .i64) word), (8, .int .i64 (word.length : Int)), (9, .int .i64 st1)] [(2, .box 24 [.int .i64 s.1, .int .i64 s.2.1, .sl (.sl (.int .i64)) s.2.2.1, .sl (.sl (.int .i64)) s.2.2.2])] ?_
      refine zo ?_
      refine zS 2 [(1, .sl (.int .i64) word), (2, .bp 2 0), (7, .sl (.int .i64) word), (8, .int .i64 (word.length : Int)), (9, .int .i64 st1), (13, .agg [.int .i64 s.1, .int .i64 s.2.1, .sl (.sl (.int .i64)) s.2.2.1, .sl (.sl (.int .i64)) s.2.2.2]), (14, .int .i64 (word.getD st1.toNat 0))] [(2, .box 24 [.int .i64 s.1, .int .i64 s.2.1, .sl (.sl (.int .i64)) s.2.2.1, .sl (.sl (.int .i64)) s.2.2.2])] ?_
      obtain ⟨v0, hv9, h⟩ := Option.bind_eq_some_iff.1 h
      refine zC [] [] (hc_linealref01_IsOp s (word.getD st1.toNat 0) hv9) [(1, .sl (.int .i64) word), (2, .bp 2 0), (7, .sl (.int .i64) word), (8, .int .i64 (word.length : Int)), (9, .int .i64 st1), (15, .bool v0)] [(2, .box 24 [.int .i64 s.1, .int .i64 s.2.1, .sl (.sl (.int .i64)) s.2.2.1, .sl (.sl (.int .i64)) s.2.2.2])] ?_
      refine zB [(1, .sl (.int .i64) word), (2, .bp 2 0), (7, .sl (.int .i64) word), (8, .int .i64 (word.length : Int)), (9, .int .i64 st1), (16, .bool (!v0))] [(2, .box 24 [.int .i64 s.1, .int .i64 s.2.1, .sl (.sl (.int .i64)) s.2.2.1, .sl (.sl (.int .i64)) s.2.2.2])] ?_
      refine zQ h (fun hb10 h => ?_) (fun hb10 h => ?_)
      ·
        refine zo ?_
        refine zB [(4, .bool false)] [] ?_
        refine AW.ret ?_
        refine ablock_r ?_
        refine athen_r ?_
        obtain rfl := Option.some.inj h
        rw [← hd3 _ rfl] at ho2
        have h := ho2
        try simp only at h
        refine athen_r ?_
        refine ablock_r ?_
        refine athen_r ?_
        obtain rfl := Option.some.inj h
        exact zR [] [] []
      ·
        refine zm ?_
        refine athen_n ?_
        refine AW.ops ?_
        obtain ⟨c11, h⟩ := ck_some.1 h
        refine zA [(1, .sl (.int .i64) word), (2, .bp 2 0), (7, .sl (.int .i64) word), (8, .int .i64 (word.length : Int)), (9, .int .i64 (st1 + 1))] [(2, .box 24 [.int .i64 s.1, .int .i64 s.2.1, .sl (.sl (.int .i64)) s.2.2.1, .sl (.sl (.int .i64)) s.2.2.2])] ?_
        obtain rfl := Option.some.inj h
        exact ⟨_, rfl, zL [] [] []⟩
    ·
      refine AW.exit ?_
      refine athen_e ?_
      obtain rfl := Option.some.inj h
      rw [← hd3 _ rfl] at ho2
      have h := ho2
      try simp only at h
      refine athen_e ?_
      refine ablock_s ?_
      refine athen_n ?_
      exact AW.weaken (zL [] [] []) (hk_linealref01_IsWord_k1 () h)

theorem hc_spec_machine_isCall (m : Int × Int × (List (List Int)) × (List (List Int))) (n : Int) {r : Bool} (h : spec_machine_isCall m n = some r) : HC Try.prog 90 [] [.agg [.int .i64 m.1, .int .i64 m.2.1, .sl (.sl (.int .i64)) m.2.2.1, .sl (.sl (.int .i64)) m.2.2.2], .int .i64 n] [] (.bool r) := by
  unfold spec_machine_isCall at h
  refine zH Try.func90 [.tmp 4] 13 ?_
  refine zo ?_
  refine zB [(1, .int .i64 n), (2, .bp 2 0)] [(2, .box 60 [.int .i64 m.1, .int .i64 m.2.1, .sl (.sl (.int .i64)) m.2.2.1, .sl (.sl (.int .i64)) m.2.2.2])] ?_
  refine zo ?_
  refine zS 3 [(1, .int .i64 n), (2, .bp 2 0), (7, .bool (decide (0 ≤ n)))] [(2, .box 60 [.int .i64 m.1, .int .i64 m.2.1, .sl (.sl (.int .i64)) m.2.2.1, .sl (.sl (.int .i64)) m.2.2.2])] ?_
  rcases zI h with ⟨hb1, h⟩ | ⟨hb1, h⟩
  ·
    refine zT [(1, .int .i64 n), (2, .bp 2 0), (7, .bool true)] [(2, .box 60 [.int .i64 m.1, .int .i64 m.2.1, .sl (.sl (.int .i64)) m.2.2.1, .sl (.sl (.int .i64)) m.2.2.2])] gt ?_
    refine zB [(4, .bool (decide (n < m.2.1)))] [] ?_
    refine AW.ret ?_
    obtain rfl := Option.some.inj h
    exact zR [] [] []
  ·
    refine zT [(1, .int .i64 n), (2, .bp 2 0), (7, .bool false)] [(2, .box 60 [.int .i64 m.1, .int .i64 m.2.1, .sl (.sl (.int .i64)) m.2.2.1, .sl (.sl (.int .i64)) m.2.2.2])] gt ?_
    refine zS 4 [(7, .bool false), (11, .cv (undef))] [] ?_
    refine zB [(4, .bool false)] [] ?_
    refine AW.ret ?_
    obtain rfl := Option.some.inj h
    exact zR [] [] []

theorem hc_spec_all_3 (is0 : Int × Int × (List (List Int)) × (List (List Int))) (numbers : List Int) {r : Bool} (h : spec_all_3 is0 numbers = some r) : HC Try.prog 94 [] [.fn (.func 90) [.agg [.int .i64 is0.1, .int .i64 is0.2.1, .sl (.sl (.int .i64)) is0.2.2.1, .sl (.sl (.int .i64)) is0.2.2.2]] [], .sl (.int .i64) numbers] [] (.bool r) := by
  unfold spec_all_3 at h
  refine zH Try.func94 [.tmp 4] 18 ?_
  refine zo ?_
  refine zB [(0, .fn (.func 90) [.agg [.int .i64 is0.1, .int .i64 is0.2.1, .sl (.sl (.int .i64)) is0.2.2.1, .sl (.sl (.int .i64)) is0.2.2.2]] []), (1, .sl (.int .i64) numbers)] [] ?_
  refine AW.have1 (fun _ : Unit => spec_all_3_k1 = some r) (fun _ => ⟨fr [], hpGet [], gt⟩) (fun _ h => ?_) (fun hk_spec_all_3_k1 => ?_)
  · unfold spec_all_3_k1 at h
    refine zo ?_
    refine zB [(4, .bool true)] [] ?_
    refine AW.ret ?_
    obtain rfl := Option.some.inj h
    exact zR [] [] []
  · refine AW.seq ?_
    refine zo ?_
    refine zB [(0, .fn (.func 90) [.agg [.int .i64 is0.1, .int .i64 is0.2.1, .sl (.sl (.int .i64)) is0.2.2.1, .sl (.sl (.int .i64)) is0.2.2.2]] []), (7, .sl (.int .i64) numbers), (8, .int .i64 (numbers.length : Int)), (9, .int .i64 0)] [] ?_
    refine AW.block ?_
    obtain ⟨rv5, hw1, ho2⟩ := Option.bind_eq_some_iff.1 h
    refine AW.loopO (spec_all_3_b1 is0 numbers) (fun st1 => ⟨fr [(0, .fn (.func 90) [.agg [.int .i64 is0.1, .int .i64 is0.2.1, .sl (.sl (.int .i64)) is0.2.2.1, .sl (.sl (.int .i64)) is0.2.2.2]] []), (7, .sl (.int .i64) numbers), (8, .int .i64 (numbers.length : Int)), (9, .int .i64 st1)], hpGet [], gt⟩) 0 hw1 (zL [] [] []) ?_
    intro st1 x4 h hd3
    unfold spec_all_3_b1 at h
    refine zo ?_
    refine zB [(0, .fn (.func 90) [.agg [.int .i64 is0.1, .int .i64 is0.2.1, .sl (.sl (.int .i64)) is0.2.2.1, .sl (.sl (.int .i64)) is0.2.2.2]] []), (7, .sl (.int .i64) numbers), (8, .int .i64 (numbers.length : Int)), (9, .int .i64 st1), (10, .bool (decide (st1 < (numbers.length : Int))))] [] ?_
    refine AW.seq ?_
    refine zQ h (fun hb6 h => ?_) (fun hb6 h => ?_)
    ·
      refine zk ?_
      refine AW.seq ?_
      refine AW.block ?_
      refine zo ?_
      obtain ⟨c7, h⟩ := ck_some.1 h
      obtain ⟨c8, h⟩ := ck_some.1 h
      refine zB [(0, .fn (.func 90) [.agg [.int .i64 is0.1, .int .i64 is0.2.1, .sl (.sl (.int .i64)) is0.2.2.1, .sl (.sl (.int .i64)) is0.2.2.2]] []), (6, .int .i64 (numbers.getD st1.toNat 0)), (7, .sl (.int .i64) numbers), (8, .int .i64 (numbers.length : Int)), (9, .int .i64 st1)] [] ?_
      refine zo ?_
      refine zS 2 [(0, .fn (.func 90) [.agg [.int .i64 is0.1, .int .i64 is0.2.1, .sl (.sl (.int .i64)) is0.2.2.1, .sl (.sl (.int .i64)) is0.2.2.2]] []), (7, .sl (.int .i64) numbers), (8, .int .i64 (numbers.length : Int)), (9, .int .i64 st1), (13, .fn (.func 90) [.agg [.int .i64 is0.1, .int .i64 is0.2.1, .sl (.sl (.int .i64)) is0.2.2.1, .sl (.sl (.int .i64)) is0.2.2.2]] []), (14, .int .i64 (numbers.getD st1.toNat 0))] [] ?_
      obtain ⟨v0, hv9, h⟩ := Option.bind_eq_some_iff.1 h
      refine zC [] [] (hc_spec_machine_isCall is0 (numbers.getD st1.toNat 0) hv9) [(0, .fn (.func 90) [.agg [.int .i64 is0.1, .int .i64 is0.2.1, .sl (.sl (.int .i64)) is0.2.2.1, .sl (.sl (.int .i64)) is0.2.2.2]] []), (7, .sl (.int .i64) numbers), (8, .int .i64 (numbers.length : Int)), (9, .int .i64 st1), (15, .bool v0)] [] ?_
      refine zB [(0, .fn (.func 90) [.agg [.int .i64 is0.1, .int .i64 is0.2.1, .sl (.sl (.int .i64)) is0.2.2.1, .sl (.sl (.int .i64)) is0.2.2.2]] []), (7, .sl (.int .i64) numbers), (8, .int .i64 (numbers.length : Int)), (9, .int .i64 st1), (16, .bool (!v0))] [] ?_
      refine zQ h (fun hb10 h => ?_) (fun hb10 h => ?_)
      ·
        refine zo ?_
        refine zB [(4, .bool false)] [] ?_
        refine AW.ret ?_
        refine ablock_r ?_
        refine athen_r ?_
        obtain rfl := Option.some.inj h
        rw [← hd3 _ rfl] at ho2
        have h := ho2
        try simp only at h
        refine athen_r ?_
        refine ablock_r ?_
        refine athen_r ?_
        obtain rfl := Option.some.inj h
        exact zR [] [] []
      ·
        refine zm ?_
        refine athen_n ?_
        refine AW.ops ?_
        obtain ⟨c11, h⟩ := ck_some.1 h
        refine zA [(0, .fn (.func 90) [.agg [.int .i64 is0.1, .int .i64 is0.2.1, .sl (.sl (.int .i64)) is0.2.2.1, .sl (.sl (.int .i64)) is0.2.2.2]] []), (7, .sl (.int .i64) numbers), (8, .int .i64 (numbers.length : Int)), (9, .int .i64 (st1 + 1))] [] ?_
        obtain rfl := Option.some.inj h
        exact ⟨_, rfl, zL [] [] []⟩
    ·
      refine AW.exit ?_
      refine athen_e ?_
      obtain rfl := Option.some.inj h
      rw [← hd3 _ rfl] at ho2
      have h := ho2
      try simp only at h
      refine athen_e ?_
      refine ablock_s ?_
      refine athen_n ?_
      exact AW.weaken (zL [] [] []) (hk_spec_all_3_k1 () h)

theorem hc_spec_machine_isWord (m : Int × Int × (List (List Int)) × (List (List Int))) (word : List Int) {r : Bool} (h : spec_machine_isWord m word = some r) : HC Try.prog 57 [] [.agg [.int .i64 m.1, .int .i64 m.2.1, .sl (.sl (.int .i64)) m.2.2.1, .sl (.sl (.int .i64)) m.2.2.2], .sl (.int .i64) word] [] (.bool r) := by
  unfold spec_machine_isWord at h
  refine zH Try.func57 [.tmp 4] 14 ?_
  refine zo ?_
  refine zB [(1, .sl (.int .i64) word), (2, .bp 2 0)] [(2, .box 60 [.int .i64 m.1, .int .i64 m.2.1, .sl (.sl (.int .i64)) m.2.2.1, .sl (.sl (.int .i64)) m.2.2.2])] ?_
  refine zo ?_
  refine zS 4 [(1, .sl (.int .i64) word), (2, .bp 2 0), (8, .bool (decide ((word.length : Int) ≤ 20)))] [(2, .box 60 [.int .i64 m.1, .int .i64 m.2.1, .sl (.sl (.int .i64)) m.2.2.1, .sl (.sl (.int .i64)) m.2.2.2])] ?_
  rcases zI h with ⟨hb1, h⟩ | ⟨hb1, h⟩
  ·
    refine zT [(1, .sl (.int .i64) word), (2, .bp 2 0), (8, .bool true)] [(2, .box 60 [.int .i64 m.1, .int .i64 m.2.1, .sl (.sl (.int .i64)) m.2.2.1, .sl (.sl (.int .i64)) m.2.2.2])] gt ?_
    refine zS 3 [(8, .bool true), (10, .fn (.func 90) [.agg [.int .i64 m.1, .int .i64 m.2.1, .sl (.sl (.int .i64)) m.2.2.1, .sl (.sl (.int .i64)) m.2.2.2]] []), (11, .sl (.int .i64) word)] [] ?_
    obtain ⟨v0, hv2, h⟩ := Option.bind_eq_some_iff.1 h
    refine zG [] [] (hc_spec_all_3 m word hv2) [(8, .bool true), (12, .bool v0)] [] ?_
    refine zB [(4, .bool v0)] [] ?_
    refine AW.ret ?_
    obtain rfl := Option.some.inj h
    exact zR [] [] []
  ·
    refine zT [(1, .sl (.int .i64) word), (2, .bp 2 0), (8, .bool false)] [(2, .box 60 [.int .i64 m.1, .int .i64 m.2.1, .sl (.sl (.int .i64)) m.2.2.1, .sl (.sl (.int .i64)) m.2.2.2])] gt ?_
    refine zS 4 [(8, .bool false), (12, .cv (undef))] [] ?_
    refine zB [(4, .bool false)] [] ?_
    refine AW.ret ?_
    obtain rfl := Option.some.inj h
    exact zR [] [] []

theorem hc_spec_machine_run (m : Int × Int × (List (List Int)) × (List (List Int))) (from0 : Int) (word : List Int) {r : (List Int) × Int} (h : spec_machine_run m from0 word = some r) : HC Try.prog 58 [] [.agg [.int .i64 m.1, .int .i64 m.2.1, .sl (.sl (.int .i64)) m.2.2.1, .sl (.sl (.int .i64)) m.2.2.2], .int .i64 from0, .sl (.int .i64) word] [(2000, .arr 3 (.int .i64) r.1)] (.tup [.own 2000, .int .i64 r.2]) := by
  unfold spec_machine_run at h
  refine zH Try.func58 [.tmp 6, .tmp 7] 39 ?_
  refine zo ?_
  refine zB [(1, .int .i64 from0), (2, .sl (.int .i64) word), (3, .bp 3 0), (6, .cv (.slice none 0 0))] [(3, .box 60 [.int .i64 m.1, .int .i64 m.2.1, .sl (.sl (.int .i64)) m.2.2.1, .sl (.sl (.int .i64)) m.2.2.2])] ?_
  refine zo ?_
  refine zB [(2, .sl (.int .i64) word), (3, .bp 3 0), (6, .cv (.slice none 0 0)), (7, .int .i64 from0)] [(3, .box 60 [.int .i64 m.1, .int .i64 m.2.1, .sl (.sl (.int .i64)) m.2.2.1, .sl (.sl (.int .i64)) m.2.2.2])] ?_
  refine AW.have1 (fun b1 : (List Int) × Int => spec_machine_run_k1 b1 = some r) (fun b1 => ⟨fr [(6, .own 27), (7, .int .i64 b1.2)], hpGet [(27, .arr 3 (.int .i64) b1.1)], gt⟩) (fun b1 h => ?_) (fun hk_spec_machine_run_k1 => ?_)
  · unfold spec_machine_run_k1 at h
    refine zo ?_
    refine zB [(6, .own 27), (7, .int .i64 b1.2)] [(27, .arr 3 (.int .i64) b1.1)] ?_
    refine AW.ret ?_
    obtain rfl := Option.some.inj h
    exact zR [] [] [(2000, 27)]
  · refine AW.seq ?_
    refine zo ?_
    refine zB [(3, .bp 3 0), (6, .cv (.slice none 0 0)), (7, .int .i64 from0), (11, .sl (.int .i64) word), (12, .int .i64 (word.length : Int)), (13, .int .i64 0)] [(3, .box 60 [.int .i64 m.1, .int .i64 m.2.1, .sl (.sl (.int .i64)) m.2.2.1, .sl (.sl (.int .i64)) m.2.2.2])] ?_
    refine AW.block ?_
    obtain ⟨rv5, hw1, ho2⟩ := Option.bind_eq_some_iff.1 h
    refine AW.loopO (spec_machine_run_b1 m word) (fun st1 => ⟨fr [(3, .bp 3 0), (6, .own 27), (7, .int .i64 st1.2.1), (11, .sl (.int .i64) word), (12, .int .i64 (word.length : Int)), (13, .int .i64 st1.2.2)], hpGet [(3, .box 60 [.int .i64 m.1, .int .i64 m.2.1, .sl (.sl (.int .i64)) m.2.2.1, .sl (.sl (.int .i64)) m.2.2.2]), (27, .arr 3 (.int .i64) st1.1)], gt⟩) ([], from0, 0) hw1 (zL [] [27] []) ?_
    intro st1 x4 h hd3
    unfold spec_machine_run_b1 at h
    refine zo ?_
    refine zB [(3, .bp 3 0), (6, .own 27), (7, .int .i64 st1.2.1), (11, .sl (.int .i64) word), (12, .int .i64 (word.length : Int)), (13, .int .i64 st1.2.2), (14, .bool (decide (st1.2.2 < (word.length : Int))))] [(3, .box 60 [.int .i64 m.1, .int .i64 m.2.1, .sl (.sl (.int .i64)) m.2.2.1, .sl (.sl (.int .i64)) m.2.2.2]), (27, .arr 3 (.int .i64) st1.1)] ?_
    refine AW.seq ?_
    refine zQ h (fun hb6 h => ?_) (fun hb6 h => ?_)
    ·
      refine zk ?_
      refine AW.seq ?_
      refine AW.block ?_
      refine zo ?_
      obtain ⟨c7, h⟩ := ck_some.1 h
      obtain ⟨c8, h⟩ := ck_some.1 h
      refine zB [(3, .bp 3 0), (6, .own 27), (7, .int .i64 st1.2.1), (9, .int .i64 (word.getD st1.2.2.toNat 0)), (11, .sl (.int .i64) word), (12, .int .i64 (word.length : Int)), (13, .int .i64 st1.2.2)] [(3, .box 60 [.int .i64 m.1, .int .i64 m.2.1, .sl (.sl (.int .i64)) m.2.2.1, .sl (.sl (.int .i64)) m.2.2.2]), (27, .arr 3 (.int .i64) st1.1)] ?_
      refine zo ?_
      obtain ⟨c9, h⟩ := ck_some.1 h
      obtain ⟨c10, h⟩ := ck_some.1 h
      obtain ⟨c11, h⟩ := ck_some.1 h
      obtain ⟨c12, h⟩ := ck_some.1 h
      obtain ⟨c13, h⟩ := ck_some.1 h
      refine zB [(3, .bp 3 0), (6, .own 27), (7, .int .i64 st1.2.1), (9, .int .i64 (word.getD st1.2.2.toNat 0)), (11, .sl (.int .i64) word), (12, .int .i64 (word.length : Int)), (13, .int .i64 st1.2.2)] [(3, .box 60 [.int .i64 m.1, .int .i64 m.2.1, .sl (.sl (.int .i64)) m.2.2.1, .sl (.sl (.int .i64)) m.2.2.2]), (27, .arr 3 (.int .i64) (st1.1 ++ [((m.2.2.2.getD st1.2.1.toNat []).getD (word.getD st1.2.2.toNat 0).toNat 0)]))] ?_
      refine AW.ops ?_
      obtain ⟨c14, h⟩ := ck_some.1 h
      obtain ⟨c15, h⟩ := ck_some.1 h
      obtain ⟨c16, h⟩ := ck_some.1 h
      obtain ⟨c17, h⟩ := ck_some.1 h
      refine zA [(3, .bp 3 0), (6, .own 27), (7, .int .i64 ((m.2.2.1.getD st1.2.1.toNat []).getD (word.getD st1.2.2.toNat 0).toNat 0)), (11, .sl (.int .i64) word), (12, .int .i64 (word.length : Int)), (13, .int .i64 st1.2.2)] [(3, .box 60 [.int .i64 m.1, .int .i64 m.2.1, .sl (.sl (.int .i64)) m.2.2.1, .sl (.sl (.int .i64)) m.2.2.2]), (27, .arr 3 (.int .i64) (st1.1 ++ [((m.2.2.2.getD st1.2.1.toNat []).getD (word.getD st1.2.2.toNat 0).toNat 0)]))] ?_
      refine ablock_n ?_
      refine athen_n ?_
      refine AW.ops ?_
      obtain ⟨c18, h⟩ := ck_some.1 h
      refine zA [(3, .bp 3 0), (6, .own 27), (7, .int .i64 ((m.2.2.1.getD st1.2.1.toNat []).getD (word.getD st1.2.2.toNat 0).toNat 0)), (11, .sl (.int .i64) word), (12, .int .i64 (word.length : Int)), (13, .int .i64 (st1.2.2 + 1))] [(3, .box 60 [.int .i64 m.1, .int .i64 m.2.1, .sl (.sl (.int .i64)) m.2.2.1, .sl (.sl (.int .i64)) m.2.2.2]), (27, .arr 3 (.int .i64) (st1.1 ++ [((m.2.2.2.getD st1.2.1.toNat []).getD (word.getD st1.2.2.toNat 0).toNat 0)]))] ?_
      obtain rfl := Option.some.inj h
      exact ⟨_, rfl, zL [] [] []⟩
    ·
      refine AW.exit ?_
      refine athen_e ?_
      obtain rfl := Option.some.inj h
      rw [← hd3 _ rfl] at ho2
      have h := ho2
      refine athen_e ?_
      refine ablock_s ?_
      refine athen_n ?_
      exact AW.weaken (zL [] [] []) (hk_spec_machine_run_k1 _ h)

theorem hc_spec_Run (s : Int × Int × (List (List Int)) × (List (List Int))) (from0 : Int) (word : List Int) {r : (List Int) × Int × Int} (h : spec_Run s from0 word = some r) : HC Try.prog 18 [] [.agg [.int .i64 s.1, .int .i64 s.2.1, .sl (.sl (.int .i64)) s.2.2.1, .sl (.sl (.int .i64)) s.2.2.2], .int .i64 from0, .sl (.int .i64) word] [(2000, .arr 3 (.int .i64) r.1)] (.tup [.own 2000, .int .i64 r.2.1, .int .i64 r.2.2]) := by
  unfold spec_Run at h
  refine zH Try.func18 [.tmp 6, .tmp 7, .tmp 8] 33 ?_
  refine zo ?_
  refine zB [(1, .int .i64 from0), (2, .sl (.int .i64) word), (3, .bp 3 0)] [(3, .box 24 [.int .i64 s.1, .int .i64 s.2.1, .sl (.sl (.int .i64)) s.2.2.1, .sl (.sl (.int .i64)) s.2.2.2])] ?_
  refine zo ?_
  refine zS 3 [(1, .int .i64 from0), (2, .sl (.int .i64) word), (11, .agg [.int .i64 s.1, .int .i64 s.2.1, .sl (.sl (.int .i64)) s.2.2.1, .sl (.sl (.int .i64)) s.2.2.2]), (13, .own 13)] [(13, .arr 3 (.int .i64) [from0])] ?_
  obtain ⟨v0, hv1, h⟩ := Option.bind_eq_some_iff.1 h
  refine zC [13] [] (hc_spec_checked s [from0] hv1) [(1, .int .i64 from0), (2, .sl (.int .i64) word), (14, .tup [.agg [.int .i64 v0.1, .int .i64 v0.2.1, .sl (.sl (.int .i64)) v0.2.2.1, .sl (.sl (.int .i64)) v0.2.2.2.1], .int .i64 v0.2.2.2.2])] [] ?_
  refine zB [(1, .int .i64 from0), (2, .sl (.int .i64) word), (8, .int .i64 v0.2.2.2.2), (9, .bp 9 0)] [(9, .box 60 [.int .i64 v0.1, .int .i64 v0.2.1, .sl (.sl (.int .i64)) v0.2.2.1, .sl (.sl (.int .i64)) v0.2.2.2.1])] ?_
  refine AW.seq ?_
  refine zo ?_
  refine zB [(1, .int .i64 from0), (2, .sl (.int .i64) word), (8, .int .i64 v0.2.2.2.2), (9, .bp 9 0), (18, .bool (!(decide (v0.2.2.2.2 = 0))))] [(9, .box 60 [.int .i64 v0.1, .int .i64 v0.2.1, .sl (.sl (.int .i64)) v0.2.2.1, .sl (.sl (.int .i64)) v0.2.2.2.1])] ?_
  refine zQ h (fun hb2 h => ?_) (fun hb2 h => ?_)
  ·
    refine zo ?_
    refine zB [(6, .cv (.slice none 0 0)), (7, .int .i64 0), (8, .int .i64 v0.2.2.2.2)] [] ?_
    refine zr ?_
    obtain rfl := Option.some.inj h
    exact zR [] [2000] []
  ·
    refine zk ?_
    refine AW.seq ?_
    refine zo ?_
    refine zS 2 [(1, .int .i64 from0), (2, .sl (.int .i64) word), (9, .bp 9 0), (20, .agg [.int .i64 v0.1, .int .i64 v0.2.1, .sl (.sl (.int .i64)) v0.2.2.1, .sl (.sl (.int .i64)) v0.2.2.2.1]), (21, .sl (.int .i64) word)] [(9, .box 60 [.int .i64 v0.1, .int .i64 v0.2.1, .sl (.sl (.int .i64)) v0.2.2.1, .sl (.sl (.int .i64)) v0.2.2.2.1])] ?_
    obtain ⟨v0_2, hv3, h⟩ := Option.bind_eq_some_iff.1 h
    refine zC [] [] (hc_spec_machine_isWord (v0.1, v0.2.1, v0.2.2.1, v0.2.2.2.1) word hv3) [(1, .int .i64 from0), (2, .sl (.int .i64) word), (9, .bp 9 0), (22, .bool v0_2)] [(9, .box 60 [.int .i64 v0.1, .int .i64 v0.2.1, .sl (.sl (.int .i64)) v0.2.2.1, .sl (.sl (.int .i64)) v0.2.2.2.1])] ?_
    refine zB [(1, .int .i64 from0), (2, .sl (.int .i64) word), (9, .bp 9 0), (23, .bool (!v0_2))] [(9, .box 60 [.int .i64 v0.1, .int .i64 v0.2.1, .sl (.sl (.int .i64)) v0.2.2.1, .sl (.sl (.int .i64)) v0.2.2.2.1])] ?_
    refine zQ h (fun hb4 h => ?_) (fun hb4 h => ?_)
    ·
      refine zo ?_
      refine zB [(6, .cv (.slice none 0 0)), (7, .int .i64 0), (8, .int .i64 2)] [] ?_
      refine zr ?_
      obtain rfl := Option.some.inj h
      exact zR [] [2000] []
    ·
      refine zk ?_
      refine zo ?_
      refine zS 3 [(25, .agg [.int .i64 v0.1, .int .i64 v0.2.1, .sl (.sl (.int .i64)) v0.2.2.1, .sl (.sl (.int .i64)) v0.2.2.2.1]), (26, .int .i64 from0), (27, .sl (.int .i64) word)] [] ?_
      obtain ⟨v0_3, hv5, h⟩ := Option.bind_eq_some_iff.1 h
      refine zC [] [] (hc_spec_machine_run (v0.1, v0.2.1, v0.2.2.1, v0.2.2.2.1) from0 word hv5) [(28, .tup [.own 38000, .int .i64 v0_3.2])] [(38000, .arr 3 (.int .i64) v0_3.1)] ?_
      refine zB [(6, .own 38000), (7, .int .i64 v0_3.2)] [(38000, .arr 3 (.int .i64) v0_3.1)] ?_
      refine zo ?_
      refine zB [(6, .own 38000), (7, .int .i64 v0_3.2), (8, .int .i64 0)] [(38000, .arr 3 (.int .i64) v0_3.1)] ?_
      refine AW.ret ?_
      obtain rfl := Option.some.inj h
      exact zR [] [] [(2000, 38000)]

theorem hc_slices_Equal (s1 : List Int) (s2 : List Int) {r : Bool} (h : slices_Equal s1 s2 = some r) : HC Try.prog 61 [] [.sl (.int .i64) s1, .sl (.int .i64) s2] [] (.bool r) := by
  unfold slices_Equal at h
  refine zH Try.func61 [.tmp 4] 26 ?_
  refine zo ?_
  refine zB [(0, .sl (.int .i64) s1), (1, .sl (.int .i64) s2)] [] ?_
  refine AW.seq ?_
  refine zo ?_
  refine zB [(0, .sl (.int .i64) s1), (1, .sl (.int .i64) s2), (10, .bool (!(decide ((s1.length : Int) = (s2.length : Int)))))] [] ?_
  refine zQ h (fun hb1 h => ?_) (fun hb1 h => ?_)
  ·
    refine zo ?_
    refine zB [(4, .bool false)] [] ?_
    refine zr ?_
    obtain rfl := Option.some.inj h
    exact zR [] [] []
  ·
    refine zk ?_
    refine AW.have1 (fun _ : Unit => slices_Equal_k1 = some r) (fun _ => ⟨fr [], hpGet [], gt⟩) (fun _ h => ?_) (fun hk_slices_Equal_k1 => ?_)
    · unfold slices_Equal_k1 at h
      refine zo ?_
      refine zB [(4, .bool true)] [] ?_
      refine AW.ret ?_
      obtain rfl := Option.some.inj h
      exact zR [] [] []
    · refine AW.seq ?_
      refine zo ?_
      refine zB [(0, .sl (.int .i64) s1), (1, .sl (.int .i64) s2), (12, .int .i64 (s1.length : Int)), (13, .int .i64 0)] [] ?_
      refine AW.block ?_
      obtain ⟨rv6, hw2, ho3⟩ := Option.bind_eq_some_iff.1 h
      refine AW.loopO (slices_Equal_b1 s1 s2) (fun st1 => ⟨fr [(0, .sl (.int .i64) s1), (1, .sl (.int .i64) s2), (12, .int .i64 (s1.length : Int)), (13, .int .i64 st1)], hpGet [], gt⟩) 0 hw2 (zL [] [] []) ?_
      intro st1 x5 h hd4
      unfold slices_Equal_b1 at h
      refine zo ?_
      refine zB [(0, .sl (.int .i64) s1), (1, .sl (.int .i64) s2), (12, .int .i64 (s1.length : Int)), (13, .int .i64 st1), (14, .bool (decide (st1 < (s1.length : Int))))] [] ?_
      refine AW.seq ?_
      refine zQ h (fun hb7 h => ?_) (fun hb7 h => ?_)
      ·
        refine zk ?_
        refine AW.seq ?_
        refine AW.block ?_
        refine zo ?_
        refine zB [(0, .sl (.int .i64) s1), (1, .sl (.int .i64) s2), (5, .int .i64 st1), (12, .int .i64 (s1.length : Int)), (13, .int .i64 st1)] [] ?_
        refine AW.seq ?_
        refine AW.draw tab_ok mixed_ok [] [] (by decide) (by kernel_rfl) ?_
        obtain ⟨c9, h⟩ := ck_some.1 h
        obtain ⟨c10, h⟩ := ck_some.1 h
        refine adops_cut 6 (fun K' hK8 => ?_)
        try dsimp only [List.drop_succ_cons, List.drop_zero, List.take_succ_cons, List.take_zero]
        simp only [go_sem, hb1, hb7]
        repeat (with_reducible refine And.intro (by first | assumption | rfl | omega | trivial | (unfold maxLen; omega)) ?_)
        refine hK8 _ ?_
        obtain ⟨c12, h⟩ := ck_some.1 h
        obtain ⟨c13, h⟩ := ck_some.1 h
        refine adops_cut 3 (fun K' hK11 => ?_)
        try dsimp only [List.drop_succ_cons, List.drop_zero, List.take_succ_cons, List.take_zero]
        simp only [go_sem, hb1, hb7]
        repeat (with_reducible refine And.intro (by first | assumption | rfl | omega | trivial | (unfold maxLen; omega)) ?_)
        refine hK11 _ ?_
        refine adops_nil ?_
        refine athen_n ?_
        refine zV [(0, .sl (.int .i64) s1), (1, .sl (.int .i64) s2), (12, .int .i64 (s1.length : Int)), (13, .int .i64 st1), (24, .bool (!(decide ((s1.getD st1.toNat 0) = (s2.getD st1.toNat 0)))))] [] gt ?_
        refine zQ h (fun hb14 h => ?_) (fun hb14 h => ?_)
        ·
          refine zo ?_
          refine zB [(4, .bool false)] [] ?_
          refine AW.ret ?_
          refine ablock_r ?_
          refine athen_r ?_
          obtain rfl := Option.some.inj h
          rw [← hd4 _ rfl] at ho3
          have h := ho3
          try simp only at h
          refine athen_r ?_
          refine ablock_r ?_
          refine athen_r ?_
          obtain rfl := Option.some.inj h
          exact zR [] [] []
        ·
          refine zm ?_
          refine athen_n ?_
          refine AW.ops ?_
          obtain ⟨c15, h⟩ := ck_some.1 h
          refine zA [(0, .sl (.int .i64) s1), (1, .sl (.int .i64) s2), (12, .int .i64 (s1.length : Int)), (13, .int .i64 (st1 + 1))] [] ?_
          obtain rfl := Option.some.inj h
          exact ⟨_, rfl, zL [] [] []⟩
      ·
        refine AW.exit ?_
        refine athen_e ?_
        obtain rfl := Option.some.inj h
        rw [← hd4 _ rfl] at ho3
        have h := ho3
        try simp only at h
        refine athen_e ?_
        refine ablock_s ?_
        refine athen_n ?_
        exact AW.weaken (zL [] [] []) (hk_slices_Equal_k1 () h)

theorem hc_spec_Tells (s : Int × Int × (List (List Int)) × (List (List Int))) (a : Int) (b : Int) (word : List Int) {r : Bool × Int} (h : spec_Tells s a b word = some r) : HC Try.prog 20 [] [.agg [.int .i64 s.1, .int .i64 s.2.1, .sl (.sl (.int .i64)) s.2.2.1, .sl (.sl (.int .i64)) s.2.2.2], .int .i64 a, .int .i64 b, .sl (.int .i64) word] [] (.tup [.bool r.1, .int .i64 r.2]) := by
  unfold spec_Tells at h
  refine zH Try.func20 [.tmp 8, .tmp 9] 49 ?_
  refine zo ?_
  refine zB [(1, .int .i64 a), (2, .int .i64 b), (3, .sl (.int .i64) word), (4, .bp 4 0)] [(4, .box 24 [.int .i64 s.1, .int .i64 s.2.1, .sl (.sl (.int .i64)) s.2.2.1, .sl (.sl (.int .i64)) s.2.2.2])] ?_
  refine zo ?_
  refine zS 4 [(1, .int .i64 a), (2, .int .i64 b), (3, .sl (.int .i64) word), (17, .agg [.int .i64 s.1, .int .i64 s.2.1, .sl (.sl (.int .i64)) s.2.2.1, .sl (.sl (.int .i64)) s.2.2.2]), (20, .own 20)] [(20, .arr 3 (.int .i64) [a, b])] ?_
  obtain ⟨v0, hv1, h⟩ := Option.bind_eq_some_iff.1 h
  refine zC [20] [] (hc_spec_checked s [a, b] hv1) [(1, .int .i64 a), (2, .int .i64 b), (3, .sl (.int .i64) word), (21, .tup [.agg [.int .i64 v0.1, .int .i64 v0.2.1, .sl (.sl (.int .i64)) v0.2.2.1, .sl (.sl (.int .i64)) v0.2.2.2.1], .int .i64 v0.2.2.2.2])] [] ?_
  refine zB [(1, .int .i64 a), (2, .int .i64 b), (3, .sl (.int .i64) word), (10, .bp 10 0), (11, .int .i64 v0.2.2.2.2)] [(10, .box 60 [.int .i64 v0.1, .int .i64 v0.2.1, .sl (.sl (.int .i64)) v0.2.2.1, .sl (.sl (.int .i64)) v0.2.2.2.1])] ?_
  refine AW.seq ?_
  refine zo ?_
  refine zB [(1, .int .i64 a), (2, .int .i64 b), (3, .sl (.int .i64) word), (10, .bp 10 0), (11, .int .i64 v0.2.2.2.2), (25, .bool (!(decide (v0.2.2.2.2 = 0))))] [(10, .box 60 [.int .i64 v0.1, .int .i64 v0.2.1, .sl (.sl (.int .i64)) v0.2.2.1, .sl (.sl (.int .i64)) v0.2.2.2.1])] ?_
  refine zQ h (fun hb2 h => ?_) (fun hb2 h => ?_)
  ·
    refine zo ?_
    refine zB [(8, .bool false), (9, .int .i64 v0.2.2.2.2)] [] ?_
    refine zr ?_
    obtain rfl := Option.some.inj h
    exact zR [] [] []
  ·
    refine zk ?_
    refine AW.seq ?_
    refine zo ?_
    refine zS 2 [(1, .int .i64 a), (2, .int .i64 b), (3, .sl (.int .i64) word), (10, .bp 10 0), (27, .agg [.int .i64 v0.1, .int .i64 v0.2.1, .sl (.sl (.int .i64)) v0.2.2.1, .sl (.sl (.int .i64)) v0.2.2.2.1]), (28, .sl (.int .i64) word)] [(10, .box 60 [.int .i64 v0.1, .int .i64 v0.2.1, .sl (.sl (.int .i64)) v0.2.2.1, .sl (.sl (.int .i64)) v0.2.2.2.1])] ?_
    obtain ⟨v0_2, hv3, h⟩ := Option.bind_eq_some_iff.1 h
    refine zC [] [] (hc_spec_machine_isWord (v0.1, v0.2.1, v0.2.2.1, v0.2.2.2.1) word hv3) [(1, .int .i64 a), (2, .int .i64 b), (3, .sl (.int .i64) word), (10, .bp 10 0), (29, .bool v0_2)] [(10, .box 60 [.int .i64 v0.1, .int .i64 v0.2.1, .sl (.sl (.int .i64)) v0.2.2.1, .sl (.sl (.int .i64)) v0.2.2.2.1])] ?_
    refine zB [(1, .int .i64 a), (2, .int .i64 b), (3, .sl (.int .i64) word), (10, .bp 10 0), (30, .bool (!v0_2))] [(10, .box 60 [.int .i64 v0.1, .int .i64 v0.2.1, .sl (.sl (.int .i64)) v0.2.2.1, .sl (.sl (.int .i64)) v0.2.2.2.1])] ?_
    refine zQ h (fun hb4 h => ?_) (fun hb4 h => ?_)
    ·
      refine zo ?_
      refine zB [(8, .bool false), (9, .int .i64 2)] [] ?_
      refine zr ?_
      obtain rfl := Option.some.inj h
      exact zR [] [] []
    ·
      refine zk ?_
      refine zo ?_
      refine zS 3 [(2, .int .i64 b), (3, .sl (.int .i64) word), (10, .bp 10 0), (32, .agg [.int .i64 v0.1, .int .i64 v0.2.1, .sl (.sl (.int .i64)) v0.2.2.1, .sl (.sl (.int .i64)) v0.2.2.2.1]), (33, .int .i64 a), (34, .sl (.int .i64) word)] [(10, .box 60 [.int .i64 v0.1, .int .i64 v0.2.1, .sl (.sl (.int .i64)) v0.2.2.1, .sl (.sl (.int .i64)) v0.2.2.2.1])] ?_
      obtain ⟨v0_3, hv5, h⟩ := Option.bind_eq_some_iff.1 h
      refine zC [] [] (hc_spec_machine_run (v0.1, v0.2.1, v0.2.2.1, v0.2.2.2.1) a word hv5) [(2, .int .i64 b), (3, .sl (.int .i64) word), (10, .bp 10 0), (35, .tup [.own 45000, .int .i64 v0_3.2])] [(10, .box 60 [.int .i64 v0.1, .int .i64 v0.2.1, .sl (.sl (.int .i64)) v0.2.2.1, .sl (.sl (.int .i64)) v0.2.2.2.1]), (45000, .arr 3 (.int .i64) v0_3.1)] ?_
      refine zB [(2, .int .i64 b), (3, .sl (.int .i64) word), (10, .bp 10 0), (12, .own 45000)] [(10, .box 60 [.int .i64 v0.1, .int .i64 v0.2.1, .sl (.sl (.int .i64)) v0.2.2.1, .sl (.sl (.int .i64)) v0.2.2.2.1]), (45000, .arr 3 (.int .i64) v0_3.1)] ?_
      refine zo ?_
      refine zS 3 [(12, .own 45000), (39, .agg [.int .i64 v0.1, .int .i64 v0.2.1, .sl (.sl (.int .i64)) v0.2.2.1, .sl (.sl (.int .i64)) v0.2.2.2.1]), (40, .int .i64 b), (41, .sl (.int .i64) word)] [(45000, .arr 3 (.int .i64) v0_3.1)] ?_
      obtain ⟨v0_4, hv6, h⟩ := Option.bind_eq_some_iff.1 h
      refine zC [] [] (hc_spec_machine_run (v0.1, v0.2.1, v0.2.2.1, v0.2.2.2.1) b word hv6) [(12, .own 45000), (42, .tup [.own 52000, .int .i64 v0_4.2])] [(45000, .arr 3 (.int .i64) v0_3.1), (52000, .arr 3 (.int .i64) v0_4.1)] ?_
      refine zB [(12, .own 45000), (14, .own 52000)] [(45000, .arr 3 (.int .i64) v0_3.1), (52000, .arr 3 (.int .i64) v0_4.1)] ?_
      refine zo ?_
      refine zS 2 [(45, .own 45000), (46, .own 52000)] [(45000, .arr 3 (.int .i64) v0_3.1), (52000, .arr 3 (.int .i64) v0_4.1)] ?_
      obtain ⟨v0_5, hv7, h⟩ := Option.bind_eq_some_iff.1 h
      refine zC [45000, 52000] [] (hc_slices_Equal v0_3.1 v0_4.1 hv7) [(47, .bool v0_5)] [] ?_
      refine zB [(8, .bool (!v0_5)), (9, .int .i64 0)] [] ?_
      refine AW.ret ?_
      obtain rfl := Option.some.inj h
      exact zR [] [] []

theorem hc_spec_machine_same (m : Int × Int × (List (List Int)) × (List (List Int))) (a : Int) (b : Int) {r : Bool} (h : spec_machine_same m a b = some r) : HC Try.prog 67 [] [.agg [.int .i64 m.1, .int .i64 m.2.1, .sl (.sl (.int .i64)) m.2.2.1, .sl (.sl (.int .i64)) m.2.2.2], .int .i64 a, .int .i64 b] [] (.bool r) := by
  unfold spec_machine_same at h
  refine zH Try.func67 [.tmp 6] 23 ?_
  refine zo ?_
  refine zB [(1, .int .i64 a), (2, .int .i64 b), (3, .bp 3 0)] [(3, .box 60 [.int .i64 m.1, .int .i64 m.2.1, .sl (.sl (.int .i64)) m.2.2.1, .sl (.sl (.int .i64)) m.2.2.2])] ?_
  refine AW.seq ?_
  refine zo ?_
  refine zB [(1, .int .i64 a), (2, .int .i64 b), (3, .bp 3 0), (11, .bool (decide (a = b)))] [(3, .box 60 [.int .i64 m.1, .int .i64 m.2.1, .sl (.sl (.int .i64)) m.2.2.1, .sl (.sl (.int .i64)) m.2.2.2])] ?_
  refine zQ h (fun hb1 h => ?_) (fun hb1 h => ?_)
  ·
    refine zo ?_
    refine zB [(6, .bool true)] [] ?_
    refine zr ?_
    obtain rfl := Option.some.inj h
    exact zR [] [] []
  ·
    refine zk ?_
    refine zo ?_
    refine zS 5 [(13, .agg [.int .i64 m.1, .int .i64 m.2.1, .sl (.sl (.int .i64)) m.2.2.1, .sl (.sl (.int .i64)) m.2.2.2]), (14, .agg [.int .i64 m.1, .int .i64 m.2.1, .sl (.sl (.int .i64)) m.2.2.1, .sl (.sl (.int .i64)) m.2.2.2]), (17, .agg [.int .i64 a, .int .i64 b])] [] ?_
    obtain ⟨v0, hv2, h⟩ := Option.bind_eq_some_iff.1 h
    refine zC [] [] (hc_spec_apart m m (a, b) hv2) [(18, .tup [.own 28000, .bool v0.2])] [(28000, .arr 3 (.int .i64) v0.1)] ?_
    refine zB [(8, .bool v0.2)] [] ?_
    refine zo ?_
    refine zB [(6, .bool (!v0.2))] [] ?_
    refine AW.ret ?_
    obtain rfl := Option.some.inj h
    exact zR [] [] []

theorem hc_spec_Same (s : Int × Int × (List (List Int)) × (List (List Int))) (a : Int) (b : Int) {r : Bool × Int} (h : spec_Same s a b = some r) : HC Try.prog 25 [] [.agg [.int .i64 s.1, .int .i64 s.2.1, .sl (.sl (.int .i64)) s.2.2.1, .sl (.sl (.int .i64)) s.2.2.2], .int .i64 a, .int .i64 b] [] (.tup [.bool r.1, .int .i64 r.2]) := by
  unfold spec_Same at h
  refine zH Try.func25 [.tmp 6, .tmp 7] 25 ?_
  refine zo ?_
  refine zB [(1, .int .i64 a), (2, .int .i64 b), (3, .bp 3 0)] [(3, .box 24 [.int .i64 s.1, .int .i64 s.2.1, .sl (.sl (.int .i64)) s.2.2.1, .sl (.sl (.int .i64)) s.2.2.2])] ?_
  refine zo ?_
  refine zS 4 [(1, .int .i64 a), (2, .int .i64 b), (11, .agg [.int .i64 s.1, .int .i64 s.2.1, .sl (.sl (.int .i64)) s.2.2.1, .sl (.sl (.int .i64)) s.2.2.2]), (14, .own 14)] [(14, .arr 3 (.int .i64) [a, b])] ?_
  obtain ⟨v0, hv1, h⟩ := Option.bind_eq_some_iff.1 h
  refine zC [14] [] (hc_spec_checked s [a, b] hv1) [(1, .int .i64 a), (2, .int .i64 b), (15, .tup [.agg [.int .i64 v0.1, .int .i64 v0.2.1, .sl (.sl (.int .i64)) v0.2.2.1, .sl (.sl (.int .i64)) v0.2.2.2.1], .int .i64 v0.2.2.2.2])] [] ?_
  refine zB [(1, .int .i64 a), (2, .int .i64 b), (8, .bp 8 0), (9, .int .i64 v0.2.2.2.2)] [(8, .box 60 [.int .i64 v0.1, .int .i64 v0.2.1, .sl (.sl (.int .i64)) v0.2.2.1, .sl (.sl (.int .i64)) v0.2.2.2.1])] ?_
  refine AW.seq ?_
  refine zo ?_
  refine zB [(1, .int .i64 a), (2, .int .i64 b), (8, .bp 8 0), (9, .int .i64 v0.2.2.2.2), (19, .bool (!(decide (v0.2.2.2.2 = 0))))] [(8, .box 60 [.int .i64 v0.1, .int .i64 v0.2.1, .sl (.sl (.int .i64)) v0.2.2.1, .sl (.sl (.int .i64)) v0.2.2.2.1])] ?_
  refine zQ h (fun hb2 h => ?_) (fun hb2 h => ?_)
  ·
    refine zo ?_
    refine zB [(6, .bool false), (7, .int .i64 v0.2.2.2.2)] [] ?_
    refine zr ?_
    obtain rfl := Option.some.inj h
    exact zR [] [] []
  ·
    refine zk ?_
    refine zo ?_
    refine zS 3 [(21, .agg [.int .i64 v0.1, .int .i64 v0.2.1, .sl (.sl (.int .i64)) v0.2.2.1, .sl (.sl (.int .i64)) v0.2.2.2.1]), (22, .int .i64 a), (23, .int .i64 b)] [] ?_
    obtain ⟨v0_2, hv3, h⟩ := Option.bind_eq_some_iff.1 h
    refine zC [] [] (hc_spec_machine_same (v0.1, v0.2.1, v0.2.2.1, v0.2.2.2.1) a b hv3) [(24, .bool v0_2)] [] ?_
    refine zB [(6, .bool v0_2), (7, .int .i64 0)] [] ?_
    refine AW.ret ?_
    obtain rfl := Option.some.inj h
    exact zR [] [] []

theorem hc_spec_machine_classes (m : Int × Int × (List (List Int)) × (List (List Int))) {r : (List Int)} (h : spec_machine_classes m = some r) : HC Try.prog 71 [] [.agg [.int .i64 m.1, .int .i64 m.2.1, .sl (.sl (.int .i64)) m.2.2.1, .sl (.sl (.int .i64)) m.2.2.2]] [(2000, .arr 3 (.int .i64) r)] (.own 2000) := by
  unfold spec_machine_classes at h
  refine zH Try.func71 [.tmp 2] 29 ?_
  refine zo ?_
  refine zB [(1, .bp 1 0)] [(1, .box 60 [.int .i64 m.1, .int .i64 m.2.1, .sl (.sl (.int .i64)) m.2.2.1, .sl (.sl (.int .i64)) m.2.2.2])] ?_
  refine zo ?_
  obtain ⟨c1, h⟩ := ck_some.1 h
  obtain ⟨c2, h⟩ := ck_some.1 h
  refine zB [(1, .bp 1 0), (3, .own 7)] [(1, .box 60 [.int .i64 m.1, .int .i64 m.2.1, .sl (.sl (.int .i64)) m.2.2.1, .sl (.sl (.int .i64)) m.2.2.2]), (7, .arr 3 (.int .i64) (List.replicate m.1.toNat (0 : Int)))] ?_
  refine AW.have1 (fun b2_2 : (List Int) => spec_machine_classes_k1 b2_2 = some r) (fun b2_2 => ⟨fr [(3, .own 7)], hpGet [(7, .arr 3 (.int .i64) b2_2)], gt⟩) (fun b2_2 h => ?_) (fun hk_spec_machine_classes_k1 => ?_)
  · unfold spec_machine_classes_k1 at h
    refine zo ?_
    refine zB [(2, .own 7)] [(7, .arr 3 (.int .i64) b2_2)] ?_
    refine AW.ret ?_
    obtain rfl := Option.some.inj h
    exact zR [] [] [(2000, 7)]
  · refine AW.seq ?_
    refine zo ?_
    refine zB [(1, .bp 1 0), (3, .own 7), (9, .int .i64 ((List.replicate m.1.toNat (0 : Int)).length : Int)), (10, .int .i64 0)] [(1, .box 60 [.int .i64 m.1, .int .i64 m.2.1, .sl (.sl (.int .i64)) m.2.2.1, .sl (.sl (.int .i64)) m.2.2.2]), (7, .arr 3 (.int .i64) (List.replicate m.1.toNat (0 : Int)))] ?_
    refine AW.block ?_
    obtain ⟨rv7, hw3, ho4⟩ := Option.bind_eq_some_iff.1 h
    refine AW.loopO (spec_machine_classes_b1 m) (fun st1 => ⟨fr [(1, .bp 1 0), (3, .own 7), (9, .int .i64 ((List.replicate m.1.toNat (0 : Int)).length : Int)), (10, .int .i64 st1.2)], hpGet [(1, .box 60 [.int .i64 m.1, .int .i64 m.2.1, .sl (.sl (.int .i64)) m.2.2.1, .sl (.sl (.int .i64)) m.2.2.2]), (7, .arr 3 (.int .i64) st1.1)], gt⟩) ((List.replicate m.1.toNat (0 : Int)), 0) hw3 (zL [] [] []) ?_
    intro st1 x6 h hd5
    unfold spec_machine_classes_b1 at h
    refine zo ?_
    refine zB [(1, .bp 1 0), (3, .own 7), (9, .int .i64 ((List.replicate m.1.toNat (0 : Int)).length : Int)), (10, .int .i64 st1.2), (11, .bool (decide (st1.2 < ((List.replicate m.1.toNat (0 : Int)).length : Int))))] [(1, .box 60 [.int .i64 m.1, .int .i64 m.2.1, .sl (.sl (.int .i64)) m.2.2.1, .sl (.sl (.int .i64)) m.2.2.2]), (7, .arr 3 (.int .i64) st1.1)] ?_
    refine AW.seq ?_
    refine zQ h (fun hb8 h => ?_) (fun hb8 h => ?_)
    ·
      refine zk ?_
      refine AW.have1 (fun b2 : (List Int) => spec_machine_classes_k2 st1 b2 = some x6) (fun b2 => ⟨fr [(1, .bp 1 0), (3, .own 7), (9, .int .i64 ((List.replicate m.1.toNat (0 : Int)).length : Int)), (10, .int .i64 st1.2)], hpGet [(1, .box 60 [.int .i64 m.1, .int .i64 m.2.1, .sl (.sl (.int .i64)) m.2.2.1, .sl (.sl (.int .i64)) m.2.2.2]), (7, .arr 3 (.int .i64) b2)], gt⟩) (fun b2 h => ?_) (fun hk_spec_machine_classes_k2 => ?_)
      · unfold spec_machine_classes_k2 at h
        refine AW.ops ?_
        obtain ⟨c9, h⟩ := ck_some.1 h
        refine zA [(1, .bp 1 0), (3, .own 7), (9, .int .i64 ((List.replicate m.1.toNat (0 : Int)).length : Int)), (10, .int .i64 (st1.2 + 1))] [(1, .box 60 [.int .i64 m.1, .int .i64 m.2.1, .sl (.sl (.int .i64)) m.2.2.1, .sl (.sl (.int .i64)) m.2.2.2]), (7, .arr 3 (.int .i64) b2)] ?_
        obtain rfl := Option.some.inj h
        exact ⟨_, rfl, zL [] [] []⟩
      · refine AW.seq ?_
        refine AW.block ?_
        refine zo ?_
        refine zB [(1, .bp 1 0), (3, .own 7), (4, .int .i64 st1.2), (9, .int .i64 ((List.replicate m.1.toNat (0 : Int)).length : Int)), (10, .int .i64 st1.2)] [(1, .box 60 [.int .i64 m.1, .int .i64 m.2.1, .sl (.sl (.int .i64)) m.2.2.1, .sl (.sl (.int .i64)) m.2.2.2]), (7, .arr 3 (.int .i64) st1.1)] ?_
        refine AW.block ?_
        obtain ⟨rv14, hw10, ho11⟩ := Option.bind_eq_some_iff.1 h
        refine AW.loopO (spec_machine_classes_b2 m st1) (fun st2 => ⟨fr [(1, .bp 1 0), (3, .own 7), (4, .int .i64 st1.2), (9, .int .i64 ((List.replicate m.1.toNat (0 : Int)).length : Int)), (10, .int .i64 st1.2)], hpGet [(1, .box 60 [.int .i64 m.1, .int .i64 m.2.1, .sl (.sl (.int .i64)) m.2.2.1, .sl (.sl (.int .i64)) m.2.2.2]), (7, .arr 3 (.int .i64) st2)], gt⟩) st1.1 hw10 (zL [] [] []) ?_
        intro st2 x13 h hd12
        unfold spec_machine_classes_b2 at h
        refine AW.seq ?_
        refine AW.seq ?_
        refine AW.draw tab_ok mixed_ok [] [] (by decide) (by kernel_rfl) ?_
        obtain ⟨c16, h⟩ := ck_some.1 h
        obtain ⟨c17, h⟩ := ck_some.1 h
        refine adops_cut 6 (fun K' hK15 => ?_)
        try dsimp only [List.drop_succ_cons, List.drop_zero, List.take_succ_cons, List.take_zero]
        simp only [go_sem, hb8]
        repeat (with_reducible refine And.intro (by first | assumption | rfl | omega | trivial | (unfold maxLen; omega)) ?_)
        refine hK15 _ ?_
        obtain ⟨v0, hv18, h⟩ := Option.bind_eq_some_iff.1 h
        refine adops.call (by first | trivial | rfl) rfl rfl rfl (fun _ h => h) [] [] (hc_spec_machine_same m (st2.getD st1.2.toNat 0) st1.2 hv18) rfl (by (simp only [go_sem, hb8]) <;> (with_reducible and_intros) <;> first | assumption | rfl | omega | (unfold maxLen; omega)) (by (simp only [go_sem, hb8]) <;> (with_reducible and_intros) <;> first | assumption | rfl | omega | (unfold maxLen; omega)) rfl ?_
        refine adops_cut 1 (fun K' hK19 => ?_)
        try dsimp only [List.drop_succ_cons, List.drop_zero, List.take_succ_cons, List.take_zero]
        simp only [go_sem, hb8]
        repeat (with_reducible refine And.intro (by first | assumption | rfl | omega | trivial | (unfold maxLen; omega)) ?_)
        refine hK19 _ ?_
        refine adops_nil ?_
        refine athen_n ?_
        refine zV [(1, .bp 1 0), (3, .own 7), (4, .int .i64 st1.2), (9, .int .i64 ((List.replicate m.1.toNat (0 : Int)).length : Int)), (10, .int .i64 st1.2), (20, .bool (!v0))] [(1, .box 60 [.int .i64 m.1, .int .i64 m.2.1, .sl (.sl (.int .i64)) m.2.2.1, .sl (.sl (.int .i64)) m.2.2.2]), (7, .arr 3 (.int .i64) st2)] gt ?_
        refine zQ h (fun hb20 h => ?_) (fun hb20 h => ?_)
        ·
          refine zk ?_
          refine AW.block ?_
          refine AW.ops ?_
          obtain ⟨c21, h⟩ := ck_some.1 h
          obtain ⟨c22, h⟩ := ck_some.1 h
          obtain ⟨c23, h⟩ := ck_some.1 h
          obtain ⟨c24, h⟩ := ck_some.1 h
          obtain ⟨c25, h⟩ := ck_some.1 h
          refine zA [(1, .bp 1 0), (3, .own 7), (4, .int .i64 st1.2), (9, .int .i64 ((List.replicate m.1.toNat (0 : Int)).length : Int)), (10, .int .i64 st1.2)] [(1, .box 60 [.int .i64 m.1, .int .i64 m.2.1, .sl (.sl (.int .i64)) m.2.2.1, .sl (.sl (.int .i64)) m.2.2.2]), (7, .arr 3 (.int .i64) (st2.set st1.2.toNat ((st2.getD st1.2.toNat 0) + 1)))] ?_
          refine ablock_n ?_
          obtain rfl := Option.some.inj h
          exact ⟨_, rfl, zL [] [] []⟩
        ·
          refine AW.exit ?_
          refine athen_e ?_
          obtain rfl := Option.some.inj h
          rw [← hd12 _ rfl] at ho11
          have h := ho11
          refine athen_e ?_
          refine ablock_s ?_
          refine ablock_n ?_
          refine athen_n ?_
          exact AW.weaken (zL [] [] []) (hk_spec_machine_classes_k2 _ h)
    ·
      refine AW.exit ?_
      refine athen_e ?_
      obtain rfl := Option.some.inj h
      rw [← hd5 _ rfl] at ho4
      have h := ho4
      refine athen_e ?_
      refine ablock_s ?_
      refine athen_n ?_
      exact AW.weaken (zL [] [] []) (hk_spec_machine_classes_k1 _ h)

theorem hc_spec_Classes (s : Int × Int × (List (List Int)) × (List (List Int))) {r : (List Int) × Int} (h : spec_Classes s = some r) : HC Try.prog 29 [] [.agg [.int .i64 s.1, .int .i64 s.2.1, .sl (.sl (.int .i64)) s.2.2.1, .sl (.sl (.int .i64)) s.2.2.2]] [(2000, .arr 3 (.int .i64) r.1)] (.tup [.own 2000, .int .i64 r.2]) := by
  unfold spec_Classes at h
  refine zH Try.func29 [.tmp 2, .tmp 3] 16 ?_
  refine zo ?_
  refine zB [(1, .bp 1 0)] [(1, .box 24 [.int .i64 s.1, .int .i64 s.2.1, .sl (.sl (.int .i64)) s.2.2.1, .sl (.sl (.int .i64)) s.2.2.2])] ?_
  refine zo ?_
  refine zS 1 [(7, .agg [.int .i64 s.1, .int .i64 s.2.1, .sl (.sl (.int .i64)) s.2.2.1, .sl (.sl (.int .i64)) s.2.2.2])] [] ?_
  obtain ⟨v0, hv1, h⟩ := Option.bind_eq_some_iff.1 h
  refine zC [] [] (hc_spec_checked s [] hv1) [(8, .tup [.agg [.int .i64 v0.1, .int .i64 v0.2.1, .sl (.sl (.int .i64)) v0.2.2.1, .sl (.sl (.int .i64)) v0.2.2.2.1], .int .i64 v0.2.2.2.2])] [] ?_
  refine zB [(4, .bp 4 0), (5, .int .i64 v0.2.2.2.2)] [(4, .box 60 [.int .i64 v0.1, .int .i64 v0.2.1, .sl (.sl (.int .i64)) v0.2.2.1, .sl (.sl (.int .i64)) v0.2.2.2.1])] ?_
  refine AW.seq ?_
  refine zo ?_
  refine zB [(4, .bp 4 0), (5, .int .i64 v0.2.2.2.2), (12, .bool (!(decide (v0.2.2.2.2 = 0))))] [(4, .box 60 [.int .i64 v0.1, .int .i64 v0.2.1, .sl (.sl (.int .i64)) v0.2.2.1, .sl (.sl (.int .i64)) v0.2.2.2.1])] ?_
  refine zQ h (fun hb2 h => ?_) (fun hb2 h => ?_)
  ·
    refine zo ?_
    refine zB [(2, .cv (.slice none 0 0)), (3, .int .i64 v0.2.2.2.2)] [] ?_
    refine zr ?_
    obtain rfl := Option.some.inj h
    exact zR [] [2000] []
  ·
    refine zk ?_
    refine zo ?_
    refine zS 1 [(14, .agg [.int .i64 v0.1, .int .i64 v0.2.1, .sl (.sl (.int .i64)) v0.2.2.1, .sl (.sl (.int .i64)) v0.2.2.2.1])] [] ?_
    obtain ⟨v0_2, hv3, h⟩ := Option.bind_eq_some_iff.1 h
    refine zC [] [] (hc_spec_machine_classes (v0.1, v0.2.1, v0.2.2.1, v0.2.2.2.1) hv3) [(15, .own 25000)] [(25000, .arr 3 (.int .i64) v0_2)] ?_
    refine zB [(2, .own 25000), (3, .int .i64 0)] [(25000, .arr 3 (.int .i64) v0_2)] ?_
    refine AW.ret ?_
    obtain rfl := Option.some.inj h
    exact zR [] [] [(2000, 25000)]

theorem hc_spec_machine_ways (m : Int × Int × (List (List Int)) × (List (List Int))) {r : Unit} (h : spec_machine_ways m = some r) : HC Try.prog 75 [] [.agg [.int .i64 m.1, .int .i64 m.2.1, .sl (.sl (.int .i64)) m.2.2.1, .sl (.sl (.int .i64)) m.2.2.2]] [(2000, .box 60 [.int .i64 m.1, .int .i64 m.2.1, .sl (.sl (.int .i64)) m.2.2.1, .sl (.sl (.int .i64)) m.2.2.2])] (.fn (.func 98) [] [.bp 2000 0]) := by
  unfold spec_machine_ways at h
  refine zH Try.func75 [.tmp 2] 4 ?_
  refine zo ?_
  refine zB [(1, .bp 1 0)] [(1, .box 60 [.int .i64 m.1, .int .i64 m.2.1, .sl (.sl (.int .i64)) m.2.2.1, .sl (.sl (.int .i64)) m.2.2.2])] ?_
  refine zo ?_
  refine zB [(2, .fn (.func 98) [] [.bp 1 0])] [(1, .box 60 [.int .i64 m.1, .int .i64 m.2.1, .sl (.sl (.int .i64)) m.2.2.1, .sl (.sl (.int .i64)) m.2.2.2])] ?_
  refine AW.ret ?_
  obtain rfl := Option.some.inj h
  exact zR [] [] [(2000, 1)]

theorem ic_spec_machine_ways_1 {S R : Type} (a1 : Int × Int × (List (List Int)) × (List (List Int))) (yl : Int × (List Int) → S → Option (Step S R)) (s0 : S) {r : Sum S R} (h : spec_machine_ways_1 S R a1 yl s0 = some r) : IC Try.prog 98 [(1000, .box 60 [.int .i64 a1.1, .int .i64 a1.2.1, .sl (.sl (.int .i64)) a1.2.2.1, .sl (.sl (.int .i64)) a1.2.2.2])] [.bp 1000 0] (fun (y : Int × (List Int)) => [.int .i64 y.1, .sl (.int .i64) y.2]) yl s0 r := by
  unfold spec_machine_ways_1 at h
  refine IC.of_body Try.func98 rfl (by kernel_rfl) rfl (nt := 17) rfl (by decide) (by simp) ?_
  intro Γ Γx lp hΓ hΓx hY
  refine zo ?_
  refine zB [(1, .bp 1000 0), (2, .bp 2 0)] [(2, .box 103 [.fn (.yield lp) [] []]), (1000, .box 60 [.int .i64 a1.1, .int .i64 a1.2.1, .sl (.sl (.int .i64)) a1.2.2.1, .sl (.sl (.int .i64)) a1.2.2.2])] ?_
  refine zo ?_
  refine zS 3 [(2, .bp 2 0), (5, .agg [.int .i64 a1.1, .int .i64 a1.2.1, .sl (.sl (.int .i64)) a1.2.2.1, .sl (.sl (.int .i64)) a1.2.2.2]), (6, .agg [.int .i64 a1.1, .int .i64 a1.2.1, .sl (.sl (.int .i64)) a1.2.2.1, .sl (.sl (.int .i64)) a1.2.2.2]), (7, .agg [.int .i64 0, .int .i64 0])] [(2, .box 103 [.fn (.yield lp) [] []]), (1000, .box 60 [.int .i64 a1.1, .int .i64 a1.2.1, .sl (.sl (.int .i64)) a1.2.2.1, .sl (.sl (.int .i64)) a1.2.2.2])] ?_
  obtain ⟨v0, hv1, h⟩ := Option.bind_eq_some_iff.1 h
  refine zC [] [] (hc_spec_walk a1 a1 (0, 0) hv1) [(2, .bp 2 0), (8, .fn (.func 100) [] [.bp 18000 0, .bp 18001 0, .bp 18002 0])] [(2, .box 103 [.fn (.yield lp) [] []]), (1000, .box 60 [.int .i64 a1.1, .int .i64 a1.2.1, .sl (.sl (.int .i64)) a1.2.2.1, .sl (.sl (.int .i64)) a1.2.2.2]), (18000, .box 75 [.int .i64 0, .int .i64 0]), (18001, .box 60 [.int .i64 a1.1, .int .i64 a1.2.1, .sl (.sl (.int .i64)) a1.2.2.1, .sl (.sl (.int .i64)) a1.2.2.2]), (18002, .box 60 [.int .i64 a1.1, .int .i64 a1.2.1, .sl (.sl (.int .i64)) a1.2.2.1, .sl (.sl (.int .i64)) a1.2.2.2])] ?_
  refine zB [(2, .bp 2 0), (8, .fn (.func 100) [] [.bp 18000 0, .bp 18001 0, .bp 18002 0])] [(2, .box 103 [.fn (.yield lp) [] []]), (1000, .box 60 [.int .i64 a1.1, .int .i64 a1.2.1, .sl (.sl (.int .i64)) a1.2.2.1, .sl (.sl (.int .i64)) a1.2.2.2]), (18000, .box 75 [.int .i64 0, .int .i64 0]), (18001, .box 60 [.int .i64 a1.1, .int .i64 a1.2.1, .sl (.sl (.int .i64)) a1.2.2.1, .sl (.sl (.int .i64)) a1.2.2.2]), (18002, .box 60 [.int .i64 a1.1, .int .i64 a1.2.1, .sl (.sl (.int .i64)) a1.2.2.1, .sl (.sl (.int .i64)) a1.2.2.2])] ?_
  refine AW.block ?_
  obtain ⟨x2, hx3, h⟩ := Option.bind_eq_some_iff.1 h
  refine AW.weaken (s' := ⟨fr [(2, .bp 2 0), (8, .fn (.func 100) [] [.bp 18000 0, .bp 18001 0, .bp 18002 0])], hpGet ([(18000, .box 75 [.int .i64 0, .int .i64 0]), (18001, .box 60 [.int .i64 a1.1, .int .i64 a1.2.1, .sl (.sl (.int .i64)) a1.2.2.1, .sl (.sl (.int .i64)) a1.2.2.2]), (18002, .box 60 [.int .i64 a1.1, .int .i64 a1.2.1, .sl (.sl (.int .i64)) a1.2.2.1, .sl (.sl (.int .i64)) a1.2.2.2])] ++ [(2, .box 103 [.fn (.yield lp) [] []]), (1000, .box 60 [.int .i64 a1.1, .int .i64 a1.2.1, .sl (.sl (.int .i64)) a1.2.2.1, .sl (.sl (.int .i64)) a1.2.2.2])]), (Γ s0)⟩) (zL [] [] []) ?_
  refine AW.rangeF (R := R) (l0 := [(2, .bp 2 0)]) (hI := [(18000, .box 75 [.int .i64 0, .int .i64 0]), (18001, .box 60 [.int .i64 a1.1, .int .i64 a1.2.1, .sl (.sl (.int .i64)) a1.2.2.1, .sl (.sl (.int .i64)) a1.2.2.2]), (18002, .box 60 [.int .i64 a1.1, .int .i64 a1.2.1, .sl (.sl (.int .i64)) a1.2.2.1, .sl (.sl (.int .i64)) a1.2.2.2])]) (h0 := fun (st1 : S) => [(2, .box 103 [.fn (.yield lp) [] []]), (1000, .box 60 [.int .i64 a1.1, .int .i64 a1.2.1, .sl (.sl (.int .i64)) a1.2.2.1, .sl (.sl (.int .i64)) a1.2.2.2])]) (gg := fun (st1 : S) => (Γ st1)) (hx0 := (fun (r1 : R) => [(2, .box 103 [.fn (.yield lp) [] []]), (1000, .box 60 [.int .i64 a1.1, .int .i64 a1.2.1, .sl (.sl (.int .i64)) a1.2.2.1, .sl (.sl (.int .i64)) a1.2.2.2])])) (gx := (fun (r1 : R) => (Γx r1))) (ex := (fun (r1 : R) => Exit.ret)) s0 [(18000, 1000), (18001, 1001), (18002, 1002)] [(1000, 18000), (1001, 18001), (1002, 18002)] [(2, 1900)] [(1900, 2)] (by decide) rfl (by first | exact (ic_spec_walk_1 (0, 0) a1 a1 (spec_machine_ways_1_y1 S R yl) s0 hx3) | simpa only [go_sem] using (ic_spec_walk_1 (0, 0) a1 a1 (spec_machine_ways_1_y1 S R yl) s0 hx3)) (by (simp only [go_sem]) <;> (with_reducible and_intros) <;> first | assumption | rfl | omega | (unfold maxLen; omega)) rfl rfl rfl (fun _ => rfl) rfl (fun _ => rfl) rfl (fun _ => rfl) (fun _ => rfl) (fun _ => rfl) (fun _ => rfl) rfl (fun _ _ => by first | rfl | (exact (hΓ _).trans (hΓ _).symm) | (exact (hΓx _).trans (hΓ _).symm)) (fun _ _ => by first | rfl | (exact (hΓ _).trans (hΓ _).symm) | (exact (hΓx _).trans (hΓ _).symm)) ?_ ?_
  · intro lpy1 y1 st1 x4 h
    unfold spec_machine_ways_1_y1 at h
    refine zV [(2, .bp 1900 0), (9, .agg [.int .i64 y1.1.1, .int .i64 y1.1.2]), (10, .sl (.int .i64) y1.2)] [(1000, .box 60 [.int .i64 a1.1, .int .i64 a1.2.1, .sl (.sl (.int .i64)) a1.2.2.1, .sl (.sl (.int .i64)) a1.2.2.2]), (1900, .box 103 [.fn (.yield lp) [] []])] (Γ st1) ?_
    refine zo ?_
    refine zB [(2, .bp 1900 0), (3, .bp 3 0), (10, .sl (.int .i64) y1.2)] [(3, .box 75 [.int .i64 y1.1.1, .int .i64 y1.1.2]), (1000, .box 60 [.int .i64 a1.1, .int .i64 a1.2.1, .sl (.sl (.int .i64)) a1.2.2.1, .sl (.sl (.int .i64)) a1.2.2.2]), (1900, .box 103 [.fn (.yield lp) [] []])] ?_
    refine AW.ops ?_
    refine zA [(2, .bp 1900 0), (3, .bp 3 0), (4, .sl (.int .i64) y1.2)] [(3, .box 75 [.int .i64 y1.1.1, .int .i64 y1.1.2]), (1000, .box 60 [.int .i64 a1.1, .int .i64 a1.2.1, .sl (.sl (.int .i64)) a1.2.2.1, .sl (.sl (.int .i64)) a1.2.2.2]), (1900, .box 103 [.fn (.yield lp) [] []])] ?_
    refine And.intro rfl ?_
    refine AW.block ?_
    refine zo ?_
    refine zS 4 [(2, .bp 1900 0), (11, .fn (.yield lp) [] []), (13, .int .i64 y1.1.1), (14, .sl (.int .i64) y1.2)] [(1000, .box 60 [.int .i64 a1.1, .int .i64 a1.2.1, .sl (.sl (.int .i64)) a1.2.2.1, .sl (.sl (.int .i64)) a1.2.2.2]), (1900, .box 103 [.fn (.yield lp) [] []])] ?_
    obtain ⟨x5, hx6, h⟩ := Option.bind_eq_some_iff.1 h
    refine yield_op rfl rfl rfl (by decide) _ rfl hY hΓ hΓx (y1.1.1, y1.2) [] (by (simp only [go_sem]) <;> (with_reducible and_intros) <;> first | assumption | rfl | omega | (unfold maxLen; omega)) hx6 ?_
    cases x5 with
    | next s =>
      try simp only at h
      refine zT [(2, .bp 1900 0), (15, .bool true)] [(1000, .box 60 [.int .i64 a1.1, .int .i64 a1.2.1, .sl (.sl (.int .i64)) a1.2.2.1, .sl (.sl (.int .i64)) a1.2.2.2]), (1900, .box 103 [.fn (.yield lp) [] []])] (Γ s) ?_
      refine zB [(2, .bp 1900 0), (16, .bool false)] [(1000, .box 60 [.int .i64 a1.1, .int .i64 a1.2.1, .sl (.sl (.int .i64)) a1.2.2.1, .sl (.sl (.int .i64)) a1.2.2.2]), (1900, .box 103 [.fn (.yield lp) [] []])] ?_
      refine AW.cond (b := false) rfl (fun hb7 => by cases hb7) (fun _ => ?_)
      refine zm ?_
      obtain rfl := Option.some.inj h
      exact rpost_next rfl [] [] [] rfl (by (simp only [go_sem]) <;> (with_reducible and_intros) <;> first | assumption | rfl | omega | (unfold maxLen; omega))
    | done e =>
      try simp only at h
      refine zT [(2, .bp 1900 0), (15, .bool false)] [(1000, .box 60 [.int .i64 a1.1, .int .i64 a1.2.1, .sl (.sl (.int .i64)) a1.2.2.1, .sl (.sl (.int .i64)) a1.2.2.2]), (1900, .box 103 [.fn (.yield lp) [] []])] (Γx e) ?_
      refine zB [(2, .bp 1900 0), (16, .bool true)] [(1000, .box 60 [.int .i64 a1.1, .int .i64 a1.2.1, .sl (.sl (.int .i64)) a1.2.2.1, .sl (.sl (.int .i64)) a1.2.2.2]), (1900, .box 103 [.fn (.yield lp) [] []])] ?_
      refine AW.cond (b := true) rfl (fun _ => ?_) (fun hb8 => by cases hb8)
      refine AW.ret ?_
      refine ablock_r ?_
      obtain rfl := Option.some.inj h
      exact rpost_ret rfl rfl [] [] [] rfl (by (simp only [go_sem]) <;> (with_reducible and_intros) <;> first | assumption | rfl | omega | (unfold maxLen; omega))
  · cases x2 with
    | inl st1_2 =>
      try simp only at h
      refine ablock_n ?_
      obtain rfl := Option.some.inj h
      exact rfl
    | inr r1 =>
      try simp only at h
      refine ablock_r ?_
      obtain rfl := Option.some.inj h
      exact rfl

theorem hc_slices_Index (s : List Int) (v0 : Int) {r : Int} (h : slices_Index s v0 = some r) : HC Try.prog 78 [] [.sl (.int .i64) s, .int .i64 v0] [] (.int .i64 r) := by
  unfold slices_Index at h
  refine zH Try.func78 [.tmp 4] 19 ?_
  refine zo ?_
  refine zB [(0, .sl (.int .i64) s), (1, .int .i64 v0)] [] ?_
  refine AW.have1 (fun _ : Unit => slices_Index_k1 = some r) (fun _ => ⟨fr [], hpGet [], gt⟩) (fun _ h => ?_) (fun hk_slices_Index_k1 => ?_)
  · unfold slices_Index_k1 at h
    refine zo ?_
    refine zB [(4, .int .i64 (-1))] [] ?_
    refine AW.ret ?_
    obtain rfl := Option.some.inj h
    exact zR [] [] []
  · refine AW.seq ?_
    refine zo ?_
    refine zB [(0, .sl (.int .i64) s), (1, .int .i64 v0), (7, .int .i64 (s.length : Int)), (8, .int .i64 0)] [] ?_
    refine AW.block ?_
    obtain ⟨rv5, hw1, ho2⟩ := Option.bind_eq_some_iff.1 h
    refine AW.loopO (slices_Index_b1 s v0) (fun st1 => ⟨fr [(0, .sl (.int .i64) s), (1, .int .i64 v0), (7, .int .i64 (s.length : Int)), (8, .int .i64 st1)], hpGet [], gt⟩) 0 hw1 (zL [] [] []) ?_
    intro st1 x4 h hd3
    unfold slices_Index_b1 at h
    refine zo ?_
    refine zB [(0, .sl (.int .i64) s), (1, .int .i64 v0), (7, .int .i64 (s.length : Int)), (8, .int .i64 st1), (9, .bool (decide (st1 < (s.length : Int))))] [] ?_
    refine AW.seq ?_
    refine zQ h (fun hb6 h => ?_) (fun hb6 h => ?_)
    ·
      refine zk ?_
      refine AW.seq ?_
      refine AW.block ?_
      refine zo ?_
      refine zB [(0, .sl (.int .i64) s), (1, .int .i64 v0), (5, .int .i64 st1), (7, .int .i64 (s.length : Int)), (8, .int .i64 st1)] [] ?_
      refine zo ?_
      obtain ⟨c7, h⟩ := ck_some.1 h
      obtain ⟨c8, h⟩ := ck_some.1 h
      refine zB [(0, .sl (.int .i64) s), (1, .int .i64 v0), (5, .int .i64 st1), (7, .int .i64 (s.length : Int)), (8, .int .i64 st1), (16, .bool (decide (v0 = (s.getD st1.toNat 0))))] [] ?_
      refine zQ h (fun hb9 h => ?_) (fun hb9 h => ?_)
      ·
        refine zo ?_
        refine zB [(4, .int .i64 st1)] [] ?_
        refine AW.ret ?_
        refine ablock_r ?_
        refine athen_r ?_
        obtain rfl := Option.some.inj h
        rw [← hd3 _ rfl] at ho2
        have h := ho2
        try simp only at h
        refine athen_r ?_
        refine ablock_r ?_
        refine athen_r ?_
        obtain rfl := Option.some.inj h
        exact zR [] [] []
      ·
        refine zm ?_
        refine athen_n ?_
        refine AW.ops ?_
        obtain ⟨c10, h⟩ := ck_some.1 h
        refine zA [(0, .sl (.int .i64) s), (1, .int .i64 v0), (7, .int .i64 (s.length : Int)), (8, .int .i64 (st1 + 1))] [] ?_
        obtain rfl := Option.some.inj h
        exact ⟨_, rfl, zL [] [] []⟩
    ·
      refine AW.exit ?_
      refine athen_e ?_
      obtain rfl := Option.some.inj h
      rw [← hd3 _ rfl] at ho2
      have h := ho2
      try simp only at h
      refine athen_e ?_
      refine ablock_s ?_
      refine athen_n ?_
      exact AW.weaken (zL [] [] []) (hk_slices_Index_k1 () h)

theorem hc_slices_Contains (s : List Int) (v0 : Int) {r : Bool} (h : slices_Contains s v0 = some r) : HC Try.prog 77 [] [.sl (.int .i64) s, .int .i64 v0] [] (.bool r) := by
  unfold slices_Contains at h
  refine zH Try.func77 [.tmp 4] 9 ?_
  refine zo ?_
  refine zB [(0, .sl (.int .i64) s), (1, .int .i64 v0)] [] ?_
  refine zo ?_
  refine zS 2 [(5, .sl (.int .i64) s), (6, .int .i64 v0)] [] ?_
  obtain ⟨v0_2, hv1, h⟩ := Option.bind_eq_some_iff.1 h
  refine zC [] [] (hc_slices_Index s v0 hv1) [(7, .int .i64 v0_2)] [] ?_
  refine zB [(4, .bool (decide (0 ≤ v0_2)))] [] ?_
  refine AW.ret ?_
  obtain rfl := Option.some.inj h
  exact zR [] [] []

end Go.Proofs.Ytfmokmhphfdbpaa
