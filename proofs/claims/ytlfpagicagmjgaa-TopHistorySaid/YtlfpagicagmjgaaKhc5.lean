/-
  Made by wip/tool/dc.py out of the print of the program: contracts.
-/
import Derived.Test.YtlfpagicagmjgaaHp
import Derived.Test.YtlfpagicagmjgaaShh
import Derived.Test.YtlfpagicagmjgaaAvd
import Derived.Test.YtlfpagicagmjgaaKhc1
import Derived.Test.YtlfpagicagmjgaaKhc2
import Derived.Test.YtlfpagicagmjgaaKhc3
import Derived.Test.YtlfpagicagmjgaaKhc4
namespace Go.Proofs.Ytlfpagicagmjgaa
open Go.RowKit

set_option linter.unusedSimpArgs false
set_option linter.unusedVariables false
set_option linter.constructorNameAsVariable false

set_option maxRecDepth 100000
set_option maxHeartbeats 2000000

theorem hc_linealref01_Valid (s : Int × Int × (List (List Int)) × (List (List Int))) {r : Bool} (h : linealref01_Valid s = some r) : HC Try.prog 116 [] [.agg [.int .i64 s.1, .int .i64 s.2.1, .sl (.sl (.int .i64)) s.2.2.1, .sl (.sl (.int .i64)) s.2.2.2]] [] (.bool r) := by
  unfold linealref01_Valid at h
  refine zH Try.func116 [.tmp 2] 35 ?_
  refine zo ?_
  refine zB [(1, .bp 1 0)] [(1, .box 64 [.int .i64 s.1, .int .i64 s.2.1, .sl (.sl (.int .i64)) s.2.2.1, .sl (.sl (.int .i64)) s.2.2.2])] ?_
  refine zo ?_
  refine zS 4 [(1, .bp 1 0), (6, .bool (decide (1 ≤ s.1)))] [(1, .box 64 [.int .i64 s.1, .int .i64 s.2.1, .sl (.sl (.int .i64)) s.2.2.1, .sl (.sl (.int .i64)) s.2.2.2])] ?_
  rcases zI h with ⟨hb1, h⟩ | ⟨hb1, h⟩
  ·
    refine zT [(1, .bp 1 0), (6, .bool true)] [(1, .box 64 [.int .i64 s.1, .int .i64 s.2.1, .sl (.sl (.int .i64)) s.2.2.1, .sl (.sl (.int .i64)) s.2.2.2])] gt ?_
    refine zS 5 [(1, .bp 1 0), (11, .bool (decide (s.1 ≤ 8)))] [(1, .box 64 [.int .i64 s.1, .int .i64 s.2.1, .sl (.sl (.int .i64)) s.2.2.1, .sl (.sl (.int .i64)) s.2.2.2])] ?_
    rcases zI h with ⟨hb2, h⟩ | ⟨hb2, h⟩
    ·
      refine zT [(1, .bp 1 0), (11, .bool true)] [(1, .box 64 [.int .i64 s.1, .int .i64 s.2.1, .sl (.sl (.int .i64)) s.2.2.1, .sl (.sl (.int .i64)) s.2.2.2])] gt ?_
      refine zS 5 [(1, .bp 1 0), (16, .bool (decide (1 ≤ s.2.1)))] [(1, .box 64 [.int .i64 s.1, .int .i64 s.2.1, .sl (.sl (.int .i64)) s.2.2.1, .sl (.sl (.int .i64)) s.2.2.2])] ?_
      rcases zI h with ⟨hb3, h⟩ | ⟨hb3, h⟩
      ·
        refine zT [(1, .bp 1 0), (16, .bool true)] [(1, .box 64 [.int .i64 s.1, .int .i64 s.2.1, .sl (.sl (.int .i64)) s.2.2.1, .sl (.sl (.int .i64)) s.2.2.2])] gt ?_
        refine zS 5 [(1, .bp 1 0), (21, .bool (decide (s.2.1 ≤ 4)))] [(1, .box 64 [.int .i64 s.1, .int .i64 s.2.1, .sl (.sl (.int .i64)) s.2.2.1, .sl (.sl (.int .i64)) s.2.2.2])] ?_
        rcases zI h with ⟨hb4, h⟩ | ⟨hb4, h⟩
        ·
          refine zT [(1, .bp 1 0), (21, .bool true)] [(1, .box 64 [.int .i64 s.1, .int .i64 s.2.1, .sl (.sl (.int .i64)) s.2.2.1, .sl (.sl (.int .i64)) s.2.2.2])] gt ?_
          refine zS 5 [(1, .bp 1 0), (21, .bool true), (22, .agg [.int .i64 s.1, .int .i64 s.2.1, .sl (.sl (.int .i64)) s.2.2.1, .sl (.sl (.int .i64)) s.2.2.2]), (24, .sl (.sl (.int .i64)) s.2.2.1), (26, .int .i64 s.1)] [(1, .box 64 [.int .i64 s.1, .int .i64 s.2.1, .sl (.sl (.int .i64)) s.2.2.1, .sl (.sl (.int .i64)) s.2.2.2])] ?_
          obtain ⟨v0, hv5, h⟩ := Option.bind_eq_some_iff.1 h
          refine zG [] [] (hc_linealref01_isTable s s.2.2.1 s.1 hv5) [(1, .bp 1 0), (21, .bool true), (27, .bool v0)] [(1, .box 64 [.int .i64 s.1, .int .i64 s.2.1, .sl (.sl (.int .i64)) s.2.2.1, .sl (.sl (.int .i64)) s.2.2.2])] ?_
          refine zS 2 [(1, .bp 1 0), (29, .bool v0)] [(1, .box 64 [.int .i64 s.1, .int .i64 s.2.1, .sl (.sl (.int .i64)) s.2.2.1, .sl (.sl (.int .i64)) s.2.2.2])] ?_
          rcases zI h with ⟨hb6, h⟩ | ⟨hb6, h⟩
          ·
            refine zT [(1, .bp 1 0), (29, .bool true)] [(1, .box 64 [.int .i64 s.1, .int .i64 s.2.1, .sl (.sl (.int .i64)) s.2.2.1, .sl (.sl (.int .i64)) s.2.2.2])] gt ?_
            refine zS 3 [(29, .bool true), (30, .agg [.int .i64 s.1, .int .i64 s.2.1, .sl (.sl (.int .i64)) s.2.2.1, .sl (.sl (.int .i64)) s.2.2.2]), (32, .sl (.sl (.int .i64)) s.2.2.2)] [] ?_
            obtain ⟨v0_2, hv7, h⟩ := Option.bind_eq_some_iff.1 h
            refine zG [] [] (hc_linealref01_isTable s s.2.2.2 6 hv7) [(29, .bool true), (33, .bool v0_2)] [] ?_
            refine zB [(2, .bool v0_2)] [] ?_
            refine AW.ret ?_
            obtain rfl := Option.some.inj h
            exact zR [] [] []
          ·
            refine zT [(1, .bp 1 0), (29, .bool false)] [(1, .box 64 [.int .i64 s.1, .int .i64 s.2.1, .sl (.sl (.int .i64)) s.2.2.1, .sl (.sl (.int .i64)) s.2.2.2])] gt ?_
            refine zS 4 [(29, .bool false), (33, .cv (undef))] [] ?_
            refine zB [(2, .bool false)] [] ?_
            refine AW.ret ?_
            obtain rfl := Option.some.inj h
            exact zR [] [] []
        ·
          refine zT [(1, .bp 1 0), (21, .bool false)] [(1, .box 64 [.int .i64 s.1, .int .i64 s.2.1, .sl (.sl (.int .i64)) s.2.2.1, .sl (.sl (.int .i64)) s.2.2.2])] gt ?_
          refine zS 4 [(1, .bp 1 0), (21, .bool false), (22, .cv (undef)), (24, .cv (undef)), (25, .cv (undef))] [(1, .box 64 [.int .i64 s.1, .int .i64 s.2.1, .sl (.sl (.int .i64)) s.2.2.1, .sl (.sl (.int .i64)) s.2.2.2])] ?_
          refine zS 6 [(29, .bool false), (30, .cv (undef)), (31, .cv (undef))] [] ?_
          refine zB [(2, .bool false)] [] ?_
          refine AW.ret ?_
          obtain rfl := Option.some.inj h
          exact zR [] [] []
      ·
        refine zT [(1, .bp 1 0), (16, .bool false)] [(1, .box 64 [.int .i64 s.1, .int .i64 s.2.1, .sl (.sl (.int .i64)) s.2.2.1, .sl (.sl (.int .i64)) s.2.2.2])] gt ?_
        refine zS 6 [(1, .bp 1 0), (21, .bool false), (22, .cv (undef))] [(1, .box 64 [.int .i64 s.1, .int .i64 s.2.1, .sl (.sl (.int .i64)) s.2.2.1, .sl (.sl (.int .i64)) s.2.2.2])] ?_
        refine zS 4 [(1, .bp 1 0), (21, .bool false), (22, .cv (undef)), (24, .cv (undef)), (26, .cv (undef))] [(1, .box 64 [.int .i64 s.1, .int .i64 s.2.1, .sl (.sl (.int .i64)) s.2.2.1, .sl (.sl (.int .i64)) s.2.2.2])] ?_
        refine zS 6 [(29, .bool false), (30, .cv (undef)), (32, .cv (undef))] [] ?_
        refine zB [(2, .bool false)] [] ?_
        refine AW.ret ?_
        obtain rfl := Option.some.inj h
        exact zR [] [] []
    ·
      refine zT [(1, .bp 1 0), (11, .bool false)] [(1, .box 64 [.int .i64 s.1, .int .i64 s.2.1, .sl (.sl (.int .i64)) s.2.2.1, .sl (.sl (.int .i64)) s.2.2.2])] gt ?_
      refine zS 6 [(1, .bp 1 0), (16, .bool false), (17, .cv (undef))] [(1, .box 64 [.int .i64 s.1, .int .i64 s.2.1, .sl (.sl (.int .i64)) s.2.2.1, .sl (.sl (.int .i64)) s.2.2.2])] ?_
      refine zS 6 [(1, .bp 1 0), (21, .bool false), (22, .cv (undef)), (23, .cv (undef))] [(1, .box 64 [.int .i64 s.1, .int .i64 s.2.1, .sl (.sl (.int .i64)) s.2.2.1, .sl (.sl (.int .i64)) s.2.2.2])] ?_
      refine zS 4 [(1, .bp 1 0), (21, .bool false), (27, .cv (undef))] [(1, .box 64 [.int .i64 s.1, .int .i64 s.2.1, .sl (.sl (.int .i64)) s.2.2.1, .sl (.sl (.int .i64)) s.2.2.2])] ?_
      refine zS 6 [(29, .bool false), (33, .cv (undef))] [] ?_
      refine zB [(2, .bool false)] [] ?_
      refine AW.ret ?_
      obtain rfl := Option.some.inj h
      exact zR [] [] []
  ·
    refine zT [(1, .bp 1 0), (6, .bool false)] [(1, .box 64 [.int .i64 s.1, .int .i64 s.2.1, .sl (.sl (.int .i64)) s.2.2.1, .sl (.sl (.int .i64)) s.2.2.2])] gt ?_
    refine zS 6 [(1, .bp 1 0), (11, .bool false), (12, .cv (undef))] [(1, .box 64 [.int .i64 s.1, .int .i64 s.2.1, .sl (.sl (.int .i64)) s.2.2.1, .sl (.sl (.int .i64)) s.2.2.2])] ?_
    refine zS 6 [(1, .bp 1 0), (16, .bool false), (18, .cv (undef))] [(1, .box 64 [.int .i64 s.1, .int .i64 s.2.1, .sl (.sl (.int .i64)) s.2.2.1, .sl (.sl (.int .i64)) s.2.2.2])] ?_
    refine zS 6 [(1, .bp 1 0), (21, .bool false), (22, .cv (undef)), (24, .cv (undef))] [(1, .box 64 [.int .i64 s.1, .int .i64 s.2.1, .sl (.sl (.int .i64)) s.2.2.1, .sl (.sl (.int .i64)) s.2.2.2])] ?_
    refine zS 6 [(1, .bp 1 0), (29, .bool false), (30, .cv (undef))] [(1, .box 64 [.int .i64 s.1, .int .i64 s.2.1, .sl (.sl (.int .i64)) s.2.2.1, .sl (.sl (.int .i64)) s.2.2.2])] ?_
    refine zB [(2, .bool false)] [] ?_
    refine AW.ret ?_
    obtain rfl := Option.some.inj h
    exact zR [] [] []

theorem hc_linealref02_areSpecs (specs : List (Int × Int × (List (List Int)) × (List (List Int)))) {r : Bool} (h : linealref02_areSpecs specs = some r) : HC Try.prog 62 [] [.sl Y0 specs] [] (.bool r) := by
  unfold linealref02_areSpecs at h
  refine zH Try.func62 [.tmp 2] 19 ?_
  refine zo ?_
  refine zB [(0, .sl Y0 specs)] [] ?_
  refine AW.have1 (fun _ : Unit => linealref02_areSpecs_k1 specs = some r) (fun _ => ⟨fr [(0, .sl Y0 specs)], hpGet [], gt⟩) (fun _ h => ?_) (fun hk_linealref02_areSpecs_k1 => ?_)
  · unfold linealref02_areSpecs_k1 at h
    refine zo ?_
    refine zS 2 [(17, .int .i64 (specs.length : Int))] [] ?_
    obtain ⟨v0_2, hv1, h⟩ := Option.bind_eq_some_iff.1 h
    refine zC [] [] (hc_linealref02_within 1 (specs.length : Int) 2 hv1) [(18, .bool v0_2)] [] ?_
    refine zB [(2, .bool v0_2)] [] ?_
    refine AW.ret ?_
    obtain rfl := Option.some.inj h
    exact zR [] [] []
  · refine AW.seq ?_
    refine zo ?_
    refine zB [(0, .sl Y0 specs), (3, .int .i64 0)] [] ?_
    refine AW.block ?_
    obtain ⟨rv6, hw2, ho3⟩ := Option.bind_eq_some_iff.1 h
    refine AW.loopO (linealref02_areSpecs_b1 specs) (fun st1 => ⟨fr [(0, .sl Y0 specs), (3, .int .i64 st1)], hpGet [], gt⟩) 0 hw2 (zL [] [] []) ?_
    intro st1 x5 h hd4
    unfold linealref02_areSpecs_b1 at h
    refine AW.seq ?_
    refine zo ?_
    refine zB [(0, .sl Y0 specs), (3, .int .i64 st1), (7, .bool (decide (st1 < (specs.length : Int))))] [] ?_
    refine zQ h (fun hb7 h => ?_) (fun hb7 h => ?_)
    ·
      refine zk ?_
      refine AW.seq ?_
      refine AW.block ?_
      refine zo ?_
      obtain ⟨c8, h⟩ := ck_some.1 h
      obtain ⟨c9, h⟩ := ck_some.1 h
      refine zS 4 [(0, .sl Y0 specs), (3, .int .i64 st1), (13, .agg [.int .i64 (specs.getD st1.toNat (0, 0, [], [])).1, .int .i64 (specs.getD st1.toNat (0, 0, [], [])).2.1, .sl (.sl (.int .i64)) (specs.getD st1.toNat (0, 0, [], [])).2.2.1, .sl (.sl (.int .i64)) (specs.getD st1.toNat (0, 0, [], [])).2.2.2])] [] ?_
      obtain ⟨v0, hv10, h⟩ := Option.bind_eq_some_iff.1 h
      refine zC [] [] (hc_linealref01_Valid (specs.getD st1.toNat (0, 0, [], [])) hv10) [(0, .sl Y0 specs), (3, .int .i64 st1), (14, .bool v0)] [] ?_
      refine zB [(0, .sl Y0 specs), (3, .int .i64 st1), (15, .bool (!v0))] [] ?_
      refine zQ h (fun hb11 h => ?_) (fun hb11 h => ?_)
      ·
        refine zo ?_
        refine zB [(2, .bool false)] [] ?_
        refine AW.ret ?_
        refine ablock_r ?_
        refine athen_r ?_
        obtain rfl := Option.some.inj h
        rw [← hd4 _ rfl] at ho3
        have h := ho3
        try simp only at h
        refine athen_r ?_
        refine ablock_r ?_
        refine athen_r ?_
        obtain rfl := Option.some.inj h
        exact zR [] [] []
      ·
        refine zm ?_
        refine athen_n ?_
        refine AW.ops ?_
        obtain ⟨c12, h⟩ := ck_some.1 h
        refine zA [(0, .sl Y0 specs), (3, .int .i64 (st1 + 1))] [] ?_
        obtain rfl := Option.some.inj h
        exact ⟨_, rfl, zL [] [] []⟩
    ·
      refine AW.exit ?_
      refine athen_e ?_
      obtain rfl := Option.some.inj h
      rw [← hd4 _ rfl] at ho3
      have h := ho3
      try simp only at h
      refine athen_e ?_
      refine ablock_s ?_
      refine athen_n ?_
      exact AW.weaken (zL [] [] []) (hk_linealref02_areSpecs_k1 () h)

theorem hc_linealref02_isFor (specs : List (Int × Int × (List (List Int)) × (List (List Int)))) (h0 : List (Int × Int × Int × Int × Int × Int)) {r : Bool} (h : linealref02_isFor specs h0 = some r) : HC Try.prog 63 [] [.sl Y0 specs, .sl Y1 h0] [] (.bool r) := by
  unfold linealref02_isFor at h
  refine zH Try.func63 [.tmp 4] 45 ?_
  refine zo ?_
  refine zB [(0, .sl Y0 specs), (1, .sl Y1 h0)] [] ?_
  refine AW.seq ?_
  refine zo ?_
  refine zS 1 [(0, .sl Y0 specs), (1, .sl Y1 h0), (6, .sl Y0 specs)] [] ?_
  obtain ⟨v0, hv1, h⟩ := Option.bind_eq_some_iff.1 h
  refine zC [] [] (hc_linealref02_areSpecs specs hv1) [(0, .sl Y0 specs), (1, .sl Y1 h0), (7, .bool v0)] [] ?_
  refine zS 2 [(0, .sl Y0 specs), (1, .sl Y1 h0), (9, .bool (!v0))] [] ?_
  rcases zI h with ⟨hb2, h⟩ | ⟨hb2, h⟩
  ·
    refine zT [(0, .sl Y0 specs), (1, .sl Y1 h0), (9, .bool true)] [] gt ?_
    refine zB [(0, .sl Y0 specs), (1, .sl Y1 h0), (13, .bool true)] [] ?_
    refine AW.cond (b := true) rfl (fun _ => ?_) (fun hb3 => by cases hb3)
    refine zo ?_
    refine zB [(4, .bool false)] [] ?_
    refine zr ?_
    obtain rfl := Option.some.inj h
    exact zR [] [] []
  ·
    refine zT [(0, .sl Y0 specs), (1, .sl Y1 h0), (9, .bool false)] [] gt ?_
    refine zS 1 [(0, .sl Y0 specs), (1, .sl Y1 h0), (9, .bool false), (10, .sl Y1 h0)] [] ?_
    obtain ⟨v0_2, hv4, h⟩ := Option.bind_eq_some_iff.1 h
    refine zG [] [] (hc_linealref02_Valid h0 hv4) [(0, .sl Y0 specs), (1, .sl Y1 h0), (9, .bool false), (11, .bool v0_2)] [] ?_
    refine zB [(0, .sl Y0 specs), (1, .sl Y1 h0), (13, .bool (!v0_2))] [] ?_
    refine zQ h (fun hb5 h => ?_) (fun hb5 h => ?_)
    ·
      refine zo ?_
      refine zB [(4, .bool false)] [] ?_
      refine zr ?_
      obtain rfl := Option.some.inj h
      exact zR [] [] []
    ·
      refine zk ?_
      refine AW.have1 (fun _ : Unit => linealref02_isFor_k1 = some r) (fun _ => ⟨fr [], hpGet [], gt⟩) (fun _ h => ?_) (fun hk_linealref02_isFor_k1 => ?_)
      · unfold linealref02_isFor_k1 at h
        refine zo ?_
        refine zB [(4, .bool true)] [] ?_
        refine AW.ret ?_
        obtain rfl := Option.some.inj h
        exact zR [] [] []
      · refine AW.seq ?_
        refine zo ?_
        refine zB [(0, .sl Y0 specs), (1, .sl Y1 h0), (5, .int .i64 0)] [] ?_
        refine AW.block ?_
        obtain ⟨rv10, hw6, ho7⟩ := Option.bind_eq_some_iff.1 h
        refine AW.loopO (linealref02_isFor_b1 specs h0) (fun st1 => ⟨fr [(0, .sl Y0 specs), (1, .sl Y1 h0), (5, .int .i64 st1)], hpGet [], gt⟩) 0 hw6 (zL [] [] []) ?_
        intro st1 x9 h hd8
        unfold linealref02_isFor_b1 at h
        refine AW.seq ?_
        refine zo ?_
        refine zB [(0, .sl Y0 specs), (1, .sl Y1 h0), (5, .int .i64 st1), (17, .bool (decide (st1 < (h0.length : Int))))] [] ?_
        refine zQ h (fun hb11 h => ?_) (fun hb11 h => ?_)
        ·
          refine zk ?_
          refine AW.seq ?_
          refine AW.block ?_
          refine AW.seq ?_
          refine AW.draw tab_ok mixed_ok [] [] (by decide) (lex_fast (by kernel_rfl)) ?_
          obtain ⟨c13, h⟩ := ck_some.1 h
          obtain ⟨c14, h⟩ := ck_some.1 h
          refine adops_cut 6 (fun K' hK12 => ?_)
          try dsimp only [List.drop_succ_cons, List.drop_zero, List.take_succ_cons, List.take_zero]
          simp only [go_sem, hb2, hb5, hb11]
          repeat (with_reducible refine And.intro (by first | assumption | rfl | omega | trivial | (unfold maxLen; omega)) ?_)
          refine hK12 _ ?_
          refine adops_cut 3 (fun K' hK15 => ?_)
          try dsimp only [List.drop_succ_cons, List.drop_zero, List.take_succ_cons, List.take_zero]
          simp only [go_sem, hb2, hb5, hb11]
          repeat (with_reducible refine And.intro (by first | assumption | rfl | omega | trivial | (unfold maxLen; omega)) ?_)
          refine hK15 _ ?_
          rcases zI h with ⟨hb16, h⟩ | ⟨hb16, h⟩
          ·
            simp only [hb16]
            refine adops_cut 4 (fun K' hK17 => ?_)
            try dsimp only [List.drop_succ_cons, List.drop_zero, List.take_succ_cons, List.take_zero]
            simp only [go_sem, hb2, hb5, hb11, hb16]
            repeat (with_reducible refine And.intro (by first | assumption | rfl | omega | trivial | (unfold maxLen; omega)) ?_)
            refine hK17 _ ?_
            refine adops_cut 4 (fun K' hK18 => ?_)
            try dsimp only [List.drop_succ_cons, List.drop_zero, List.take_succ_cons, List.take_zero]
            simp only [go_sem, hb2, hb5, hb11, hb16]
            repeat (with_reducible refine And.intro (by first | assumption | rfl | omega | trivial | (unfold maxLen; omega)) ?_)
            refine hK18 _ ?_
            refine adops_cut 4 (fun K' hK19 => ?_)
            try dsimp only [List.drop_succ_cons, List.drop_zero, List.take_succ_cons, List.take_zero]
            simp only [go_sem, hb2, hb5, hb11, hb16]
            repeat (with_reducible refine And.intro (by first | assumption | rfl | omega | trivial | (unfold maxLen; omega)) ?_)
            refine hK19 _ ?_
            refine adops_cut 4 (fun K' hK20 => ?_)
            try dsimp only [List.drop_succ_cons, List.drop_zero, List.take_succ_cons, List.take_zero]
            simp only [go_sem, hb2, hb5, hb11, hb16]
            repeat (with_reducible refine And.intro (by first | assumption | rfl | omega | trivial | (unfold maxLen; omega)) ?_)
            refine hK20 _ ?_
            refine adops_nil ?_
            refine athen_n ?_
            refine zV [(0, .sl Y0 specs), (1, .sl Y1 h0), (5, .int .i64 st1), (44, .bool true)] [] gt ?_
            refine AW.cond (b := true) rfl (fun _ => ?_) (fun hb21 => by cases hb21)
            refine zo ?_
            refine zB [(4, .bool false)] [] ?_
            refine AW.ret ?_
            refine ablock_r ?_
            refine athen_r ?_
            obtain rfl := Option.some.inj h
            rw [← hd8 _ rfl] at ho7
            have h := ho7
            try simp only at h
            refine athen_r ?_
            refine ablock_r ?_
            refine athen_r ?_
            obtain rfl := Option.some.inj h
            exact zR [] [] []
          ·
            simp only [hb16]
            obtain ⟨c23, h⟩ := ck_some.1 h
            obtain ⟨c24, h⟩ := ck_some.1 h
            refine adops_cut 6 (fun K' hK22 => ?_)
            try dsimp only [List.drop_succ_cons, List.drop_zero, List.take_succ_cons, List.take_zero]
            simp only [go_sem, hb2, hb5, hb11, hb16]
            repeat (with_reducible refine And.intro (by first | assumption | rfl | omega | trivial | (unfold maxLen; omega)) ?_)
            refine hK22 _ ?_
            obtain ⟨c26, h⟩ := ck_some.1 h
            obtain ⟨c27, h⟩ := ck_some.1 h
            obtain ⟨c28, h⟩ := ck_some.1 h
            obtain ⟨c29, h⟩ := ck_some.1 h
            refine adops_cut 6 (fun K' hK25 => ?_)
            try dsimp only [List.drop_succ_cons, List.drop_zero, List.take_succ_cons, List.take_zero]
            simp only [go_sem, hb2, hb5, hb11, hb16]
            repeat (with_reducible refine And.intro (by first | assumption | rfl | omega | trivial | (unfold maxLen; omega)) ?_)
            refine hK25 _ ?_
            refine adops_cut 4 (fun K' hK30 => ?_)
            try dsimp only [List.drop_succ_cons, List.drop_zero, List.take_succ_cons, List.take_zero]
            simp only [go_sem, hb2, hb5, hb11, hb16]
            repeat (with_reducible refine And.intro (by first | assumption | rfl | omega | trivial | (unfold maxLen; omega)) ?_)
            refine hK30 _ ?_
            refine adops_nil ?_
            refine athen_n ?_
            refine zV [(0, .sl Y0 specs), (1, .sl Y1 h0), (5, .int .i64 st1), (44, .bool (decide ((specs.getD (h0.getD st1.toNat (0, 0, 0, 0, 0, 0)).2.1.toNat (0, 0, [], [])).2.1 ≤ (h0.getD st1.toNat (0, 0, 0, 0, 0, 0)).2.2.1)))] [] gt ?_
            refine zQ h (fun hb31 h => ?_) (fun hb31 h => ?_)
            ·
              refine zo ?_
              refine zB [(4, .bool false)] [] ?_
              refine AW.ret ?_
              refine ablock_r ?_
              refine athen_r ?_
              obtain rfl := Option.some.inj h
              rw [← hd8 _ rfl] at ho7
              have h := ho7
              try simp only at h
              refine athen_r ?_
              refine ablock_r ?_
              refine athen_r ?_
              obtain rfl := Option.some.inj h
              exact zR [] [] []
            ·
              refine zm ?_
              refine athen_n ?_
              refine AW.ops ?_
              obtain ⟨c32, h⟩ := ck_some.1 h
              refine zA [(0, .sl Y0 specs), (1, .sl Y1 h0), (5, .int .i64 (st1 + 1))] [] ?_
              obtain rfl := Option.some.inj h
              exact ⟨_, rfl, zL [] [] []⟩
        ·
          refine AW.exit ?_
          refine athen_e ?_
          obtain rfl := Option.some.inj h
          rw [← hd8 _ rfl] at ho7
          have h := ho7
          try simp only at h
          refine athen_e ?_
          refine ablock_s ?_
          refine athen_n ?_
          exact AW.weaken (zL [] [] []) (hk_linealref02_isFor_k1 () h)

theorem hc_linealref02_For (specs : List (Int × Int × (List (List Int)) × (List (List Int)))) (h0 : List (Int × Int × Int × Int × Int × Int)) {r : Bool × Int} (h : linealref02_For specs h0 = some r) : HC Try.prog 21 [] [.sl Y0 specs, .sl Y1 h0] [] (.tup [.bool r.1, .int .i64 r.2]) := by
  unfold linealref02_For at h
  refine zH Try.func21 [.tmp 4, .tmp 5] 12 ?_
  refine zo ?_
  refine zB [(0, .sl Y0 specs), (1, .sl Y1 h0)] [] ?_
  refine AW.seq ?_
  refine zo ?_
  refine zS 1 [(0, .sl Y0 specs), (1, .sl Y1 h0), (6, .sl Y0 specs)] [] ?_
  obtain ⟨v0, hv1, h⟩ := Option.bind_eq_some_iff.1 h
  refine zC [] [] (hc_linealref02_areSpecs specs hv1) [(0, .sl Y0 specs), (1, .sl Y1 h0), (7, .bool v0)] [] ?_
  refine zB [(0, .sl Y0 specs), (1, .sl Y1 h0), (8, .bool (!v0))] [] ?_
  refine zQ h (fun hb2 h => ?_) (fun hb2 h => ?_)
  ·
    refine zo ?_
    refine zB [(4, .bool false), (5, .int .i64 10)] [] ?_
    refine zr ?_
    obtain rfl := Option.some.inj h
    exact zR [] [] []
  ·
    refine zk ?_
    refine zo ?_
    refine zS 2 [(9, .sl Y0 specs), (10, .sl Y1 h0)] [] ?_
    obtain ⟨v0_2, hv3, h⟩ := Option.bind_eq_some_iff.1 h
    refine zC [] [] (hc_linealref02_isFor specs h0 hv3) [(11, .bool v0_2)] [] ?_
    refine zB [(4, .bool v0_2), (5, .int .i64 0)] [] ?_
    refine AW.ret ?_
    obtain rfl := Option.some.inj h
    exact zR [] [] []

theorem hc_history_Of_1_1 (c : Int × Int × Int × Int × Int × Int) (a1 : Int) {r : Unit} (h : history_Of_1_1 c a1 = some r) : HC Try.prog 102 [(1000, .box 3 [.int .i64 a1])] [.agg [.int .i64 c.1, .int .i64 c.2.1, .int .i64 c.2.2.1, .int .i64 c.2.2.2.1, .int .i64 c.2.2.2.2.1, .int .i64 c.2.2.2.2.2], .bp 1000 0] [(1000, .box 3 [.int .i64 a1])] (.bool (decide (c.2.1 = a1))) := by
  unfold history_Of_1_1 at h
  refine zH Try.func102 [.tmp 3] 8 ?_
  refine zo ?_
  refine zB [(1, .bp 1000 0), (2, .bp 2 0)] [(2, .box 55 [.int .i64 c.1, .int .i64 c.2.1, .int .i64 c.2.2.1, .int .i64 c.2.2.2.1, .int .i64 c.2.2.2.2.1, .int .i64 c.2.2.2.2.2]), (1000, .box 3 [.int .i64 a1])] ?_
  refine zo ?_
  refine zB [(3, .bool (decide (c.2.1 = a1)))] [(1000, .box 3 [.int .i64 a1])] ?_
  refine AW.ret ?_
  obtain rfl := Option.some.inj h
  exact zR [] [] []

theorem hc_history_those_2 (h0 : List (Int × Int × Int × Int × Int × Int)) (c0 : Int) {r : (List (Int × Int × Int × Int × Int × Int))} (h : history_those_2 h0 c0 = some r) : HC Try.prog 101 [(1000, .box 3 [.int .i64 c0])] [.sl Y1 h0, .fn (.func 102) [] [.bp 1000 0]] [(1000, .box 3 [.int .i64 c0]), (2000, .arr 55 Y1 r)] (.own 2000) := by
  unfold history_those_2 at h
  refine zH Try.func101 [.tmp 4] 23 ?_
  refine zo ?_
  refine zB [(0, .sl Y1 h0), (1, .fn (.func 102) [] [.bp 1000 0])] [(1000, .box 3 [.int .i64 c0])] ?_
  refine zo ?_
  refine zB [(0, .sl Y1 h0), (1, .fn (.func 102) [] [.bp 1000 0]), (5, .cv (.slice none 0 0))] [(1000, .box 3 [.int .i64 c0])] ?_
  refine AW.have1 (fun b1 : (List (Int × Int × Int × Int × Int × Int)) => history_those_2_k1 b1 = some r) (fun b1 => ⟨fr [(5, .own 20)], hpGet [(20, .arr 55 Y1 b1), (1000, .box 3 [.int .i64 c0])], gt⟩) (fun b1 h => ?_) (fun hk_history_those_2_k1 => ?_)
  · unfold history_those_2_k1 at h
    refine zo ?_
    refine zB [(4, .own 20)] [(20, .arr 55 Y1 b1), (1000, .box 3 [.int .i64 c0])] ?_
    refine AW.ret ?_
    obtain rfl := Option.some.inj h
    exact zR [] [] [(2000, 20)]
  · refine AW.seq ?_
    refine zo ?_
    refine zB [(1, .fn (.func 102) [] [.bp 1000 0]), (5, .cv (.slice none 0 0)), (8, .sl Y1 h0), (9, .int .i64 (h0.length : Int)), (10, .int .i64 0)] [(1000, .box 3 [.int .i64 c0])] ?_
    refine AW.block ?_
    obtain ⟨rv5, hw1, ho2⟩ := Option.bind_eq_some_iff.1 h
    refine AW.loopO (history_those_2_b1 h0 c0) (fun st1 => ⟨fr [(1, .fn (.func 102) [] [.bp 1000 0]), (5, .own 20), (8, .sl Y1 h0), (9, .int .i64 (h0.length : Int)), (10, .int .i64 st1.2)], hpGet [(20, .arr 55 Y1 st1.1), (1000, .box 3 [.int .i64 c0])], gt⟩) ([], 0) hw1 (zL [] [20] []) ?_
    intro st1 x4 h hd3
    unfold history_those_2_b1 at h
    refine zo ?_
    refine zB [(1, .fn (.func 102) [] [.bp 1000 0]), (5, .own 20), (8, .sl Y1 h0), (9, .int .i64 (h0.length : Int)), (10, .int .i64 st1.2), (11, .bool (decide (st1.2 < (h0.length : Int))))] [(20, .arr 55 Y1 st1.1), (1000, .box 3 [.int .i64 c0])] ?_
    refine AW.seq ?_
    refine zQ h (fun hb6 h => ?_) (fun hb6 h => ?_)
    ·
      refine zk ?_
      refine AW.seq ?_
      refine AW.block ?_
      refine zo ?_
      obtain ⟨c7, h⟩ := ck_some.1 h
      obtain ⟨c8, h⟩ := ck_some.1 h
      refine zB [(1, .fn (.func 102) [] [.bp 1000 0]), (5, .own 20), (7, .bp 7 0), (8, .sl Y1 h0), (9, .int .i64 (h0.length : Int)), (10, .int .i64 st1.2)] [(7, .box 55 [.int .i64 (h0.getD st1.2.toNat (0, 0, 0, 0, 0, 0)).1, .int .i64 (h0.getD st1.2.toNat (0, 0, 0, 0, 0, 0)).2.1, .int .i64 (h0.getD st1.2.toNat (0, 0, 0, 0, 0, 0)).2.2.1, .int .i64 (h0.getD st1.2.toNat (0, 0, 0, 0, 0, 0)).2.2.2.1, .int .i64 (h0.getD st1.2.toNat (0, 0, 0, 0, 0, 0)).2.2.2.2.1, .int .i64 (h0.getD st1.2.toNat (0, 0, 0, 0, 0, 0)).2.2.2.2.2]), (20, .arr 55 Y1 st1.1), (1000, .box 3 [.int .i64 c0])] ?_
      refine zo ?_
      refine zS 2 [(1, .fn (.func 102) [] [.bp 1000 0]), (5, .own 20), (7, .bp 7 0), (8, .sl Y1 h0), (9, .int .i64 (h0.length : Int)), (10, .int .i64 st1.2), (14, .fn (.func 102) [] [.bp 1000 0]), (15, .agg [.int .i64 (h0.getD st1.2.toNat (0, 0, 0, 0, 0, 0)).1, .int .i64 (h0.getD st1.2.toNat (0, 0, 0, 0, 0, 0)).2.1, .int .i64 (h0.getD st1.2.toNat (0, 0, 0, 0, 0, 0)).2.2.1, .int .i64 (h0.getD st1.2.toNat (0, 0, 0, 0, 0, 0)).2.2.2.1, .int .i64 (h0.getD st1.2.toNat (0, 0, 0, 0, 0, 0)).2.2.2.2.1, .int .i64 (h0.getD st1.2.toNat (0, 0, 0, 0, 0, 0)).2.2.2.2.2])] [(7, .box 55 [.int .i64 (h0.getD st1.2.toNat (0, 0, 0, 0, 0, 0)).1, .int .i64 (h0.getD st1.2.toNat (0, 0, 0, 0, 0, 0)).2.1, .int .i64 (h0.getD st1.2.toNat (0, 0, 0, 0, 0, 0)).2.2.1, .int .i64 (h0.getD st1.2.toNat (0, 0, 0, 0, 0, 0)).2.2.2.1, .int .i64 (h0.getD st1.2.toNat (0, 0, 0, 0, 0, 0)).2.2.2.2.1, .int .i64 (h0.getD st1.2.toNat (0, 0, 0, 0, 0, 0)).2.2.2.2.2]), (20, .arr 55 Y1 st1.1), (1000, .box 3 [.int .i64 c0])] ?_
      obtain ⟨v0, hv9, h⟩ := Option.bind_eq_some_iff.1 h
      refine zC [] [(1000, 1000)] (hc_history_Of_1_1 (h0.getD st1.2.toNat (0, 0, 0, 0, 0, 0)) c0 hv9) [(1, .fn (.func 102) [] [.bp 1000 0]), (5, .own 20), (7, .bp 7 0), (8, .sl Y1 h0), (9, .int .i64 (h0.length : Int)), (10, .int .i64 st1.2), (16, .bool (decide ((h0.getD st1.2.toNat (0, 0, 0, 0, 0, 0)).2.1 = c0)))] [(7, .box 55 [.int .i64 (h0.getD st1.2.toNat (0, 0, 0, 0, 0, 0)).1, .int .i64 (h0.getD st1.2.toNat (0, 0, 0, 0, 0, 0)).2.1, .int .i64 (h0.getD st1.2.toNat (0, 0, 0, 0, 0, 0)).2.2.1, .int .i64 (h0.getD st1.2.toNat (0, 0, 0, 0, 0, 0)).2.2.2.1, .int .i64 (h0.getD st1.2.toNat (0, 0, 0, 0, 0, 0)).2.2.2.2.1, .int .i64 (h0.getD st1.2.toNat (0, 0, 0, 0, 0, 0)).2.2.2.2.2]), (20, .arr 55 Y1 st1.1), (1000, .box 3 [.int .i64 c0])] ?_
      refine zB [(1, .fn (.func 102) [] [.bp 1000 0]), (5, .own 20), (7, .bp 7 0), (8, .sl Y1 h0), (9, .int .i64 (h0.length : Int)), (10, .int .i64 st1.2), (16, .bool (decide ((h0.getD st1.2.toNat (0, 0, 0, 0, 0, 0)).2.1 = c0)))] [(7, .box 55 [.int .i64 (h0.getD st1.2.toNat (0, 0, 0, 0, 0, 0)).1, .int .i64 (h0.getD st1.2.toNat (0, 0, 0, 0, 0, 0)).2.1, .int .i64 (h0.getD st1.2.toNat (0, 0, 0, 0, 0, 0)).2.2.1, .int .i64 (h0.getD st1.2.toNat (0, 0, 0, 0, 0, 0)).2.2.2.1, .int .i64 (h0.getD st1.2.toNat (0, 0, 0, 0, 0, 0)).2.2.2.2.1, .int .i64 (h0.getD st1.2.toNat (0, 0, 0, 0, 0, 0)).2.2.2.2.2]), (20, .arr 55 Y1 st1.1), (1000, .box 3 [.int .i64 c0])] ?_
      refine zQ h (fun hb10 h => ?_) (fun hb10 h => ?_)
      ·
        refine AW.ops ?_
        obtain ⟨c11, h⟩ := ck_some.1 h
        refine zA [(1, .fn (.func 102) [] [.bp 1000 0]), (5, .own 20), (8, .sl Y1 h0), (9, .int .i64 (h0.length : Int)), (10, .int .i64 st1.2)] [(20, .arr 55 Y1 (st1.1 ++ [(h0.getD st1.2.toNat (0, 0, 0, 0, 0, 0))])), (1000, .box 3 [.int .i64 c0])] ?_
        refine ablock_n ?_
        refine athen_n ?_
        refine AW.ops ?_
        obtain ⟨c12, h⟩ := ck_some.1 h
        refine zA [(1, .fn (.func 102) [] [.bp 1000 0]), (5, .own 20), (8, .sl Y1 h0), (9, .int .i64 (h0.length : Int)), (10, .int .i64 (st1.2 + 1))] [(20, .arr 55 Y1 (st1.1 ++ [(h0.getD st1.2.toNat (0, 0, 0, 0, 0, 0))])), (1000, .box 3 [.int .i64 c0])] ?_
        obtain rfl := Option.some.inj h
        exact ⟨_, rfl, zL [] [] []⟩
      ·
        refine zm ?_
        refine athen_n ?_
        refine AW.ops ?_
        obtain ⟨c13, h⟩ := ck_some.1 h
        refine zA [(1, .fn (.func 102) [] [.bp 1000 0]), (5, .own 20), (8, .sl Y1 h0), (9, .int .i64 (h0.length : Int)), (10, .int .i64 (st1.2 + 1))] [(20, .arr 55 Y1 st1.1), (1000, .box 3 [.int .i64 c0])] ?_
        obtain rfl := Option.some.inj h
        exact ⟨_, rfl, zL [] [] []⟩
    ·
      refine AW.exit ?_
      refine athen_e ?_
      obtain rfl := Option.some.inj h
      rw [← hd3 _ rfl] at ho2
      have h := ho2
      refine athen_e ?_
      refine ablock_s ?_
      refine athen_n ?_
      exact AW.weaken (zL [] [] []) (hk_history_those_2_k1 _ h)

theorem hc_history_Of_1 (a0 : List (Int × Int × Int × Int × Int × Int)) (a1 : Int) {r : (List (Int × Int × Int × Int × Int × Int))} (h : history_Of_1 a0 a1 = some r) : HC Try.prog 100 [(1000, .box 23 [.sl Y1 a0]), (1001, .box 3 [.int .i64 a1])] [.bp 1000 0, .bp 1001 0] [(1000, .box 23 [.sl Y1 a0]), (1001, .box 3 [.int .i64 a1]), (2000, .arr 55 Y1 r)] (.own 2000) := by
  unfold history_Of_1 at h
  refine zH Try.func100 [.tmp 2] 6 ?_
  refine zo ?_
  refine zB [(0, .bp 1000 0), (1, .bp 1001 0)] [(1000, .box 23 [.sl Y1 a0]), (1001, .box 3 [.int .i64 a1])] ?_
  refine zo ?_
  refine zS 2 [(3, .sl Y1 a0), (4, .fn (.func 102) [] [.bp 1001 0])] [(1000, .box 23 [.sl Y1 a0]), (1001, .box 3 [.int .i64 a1])] ?_
  obtain ⟨v0, hv1, h⟩ := Option.bind_eq_some_iff.1 h
  refine zC [] [(1000, 1001)] (hc_history_those_2 a0 a1 hv1) [(5, .own 15000)] [(1000, .box 23 [.sl Y1 a0]), (1001, .box 3 [.int .i64 a1]), (15000, .arr 55 Y1 v0)] ?_
  refine zB [(2, .own 15000)] [(1000, .box 23 [.sl Y1 a0]), (1001, .box 3 [.int .i64 a1]), (15000, .arr 55 Y1 v0)] ?_
  refine AW.ret ?_
  obtain rfl := Option.some.inj h
  exact zR [] [] [(2000, 15000)]

theorem hc_history_told_12 (err : Int) (c0 : List (Int × Int × Int × Int × Int × Int)) (c1 : Int) {r : (List (Int × Int × Int × Int × Int × Int)) × Int} (h : history_told_12 err c0 c1 = some r) : HC Try.prog 98 [(1000, .box 23 [.sl Y1 c0]), (1001, .box 3 [.int .i64 c1])] [.int .i64 err, .fn (.func 100) [] [.bp 1000 0, .bp 1001 0]] [(2000, .arr 55 Y1 r.1)] (.tup [.own 2000, .int .i64 r.2]) := by
  unfold history_told_12 at h
  refine zH Try.func98 [.tmp 4, .tmp 5] 13 ?_
  refine zo ?_
  refine zB [(0, .int .i64 err), (1, .fn (.func 100) [] [.bp 1000 0, .bp 1001 0])] [(1000, .box 23 [.sl Y1 c0]), (1001, .box 3 [.int .i64 c1])] ?_
  refine AW.seq ?_
  refine zo ?_
  refine zB [(0, .int .i64 err), (1, .fn (.func 100) [] [.bp 1000 0, .bp 1001 0]), (8, .bool (!(decide (err = 0))))] [(1000, .box 23 [.sl Y1 c0]), (1001, .box 3 [.int .i64 c1])] ?_
  refine zQ h (fun hb1 h => ?_) (fun hb1 h => ?_)
  ·
    refine zo ?_
    refine zB [(0, .int .i64 err), (6, .cv (.slice none 0 0))] [(1000, .box 23 [.sl Y1 c0]), (1001, .box 3 [.int .i64 c1])] ?_
    refine zo ?_
    refine zB [(4, .cv (.slice none 0 0)), (5, .int .i64 err)] [(1000, .box 23 [.sl Y1 c0]), (1001, .box 3 [.int .i64 c1])] ?_
    refine zr ?_
    obtain rfl := Option.some.inj h
    exact zR [] [2000] []
  ·
    refine zk ?_
    refine zo ?_
    refine zS 1 [(11, .fn (.func 100) [] [.bp 1000 0, .bp 1001 0])] [(1000, .box 23 [.sl Y1 c0]), (1001, .box 3 [.int .i64 c1])] ?_
    obtain ⟨v0, hv2, h⟩ := Option.bind_eq_some_iff.1 h
    refine zC [] [(1000, 1000), (1001, 1001)] (hc_history_Of_1 c0 c1 hv2) [(12, .own 22000)] [(1000, .box 23 [.sl Y1 c0]), (1001, .box 3 [.int .i64 c1]), (22000, .arr 55 Y1 v0)] ?_
    refine zB [(4, .own 22000), (5, .int .i64 0)] [(1000, .box 23 [.sl Y1 c0]), (1001, .box 3 [.int .i64 c1]), (22000, .arr 55 Y1 v0)] ?_
    refine AW.ret ?_
    obtain rfl := Option.some.inj h
    exact zR [] [] [(2000, 22000)]

theorem hc_history_Of (h0 : List (Int × Int × Int × Int × Int × Int)) (object : Int) {r : (List (Int × Int × Int × Int × Int × Int)) × Int} (h : history_Of h0 object = some r) : HC Try.prog 41 [] [.sl Y1 h0, .int .i64 object] [(2000, .arr 55 Y1 r.1)] (.tup [.own 2000, .int .i64 r.2]) := by
  unfold history_Of at h
  refine zH Try.func41 [.tmp 4, .tmp 5] 14 ?_
  refine zo ?_
  refine zB [(2, .bp 2 0), (3, .bp 3 0)] [(2, .box 23 [.sl Y1 h0]), (3, .box 3 [.int .i64 object])] ?_
  refine AW.seq ?_
  refine AW.draw tab_ok mixed_ok [(5, [2, 3, 21000])] [] (by decide) (by kernel_rfl) ?_
  refine adops_cut 2 (fun K' hK1 => ?_)
  try dsimp only [List.drop_succ_cons, List.drop_zero, List.take_succ_cons, List.take_zero]
  simp only [go_sem]
  repeat (with_reducible refine And.intro (by first | assumption | rfl | omega | trivial | (unfold maxLen; omega)) ?_)
  refine hK1 _ ?_
  obtain ⟨v0, hv2, h⟩ := Option.bind_eq_some_iff.1 h
  refine adops.call (by first | trivial | rfl) rfl rfl rfl (fun _ h => h) [] [] (hc_history_within object 0 1 hv2) rfl (by (simp only [go_sem]) <;> (with_reducible and_intros) <;> first | assumption | rfl | omega | (unfold maxLen; omega)) (by (simp only [go_sem]) <;> (with_reducible and_intros) <;> first | assumption | rfl | omega | (unfold maxLen; omega)) rfl ?_
  obtain ⟨v0_2, hv3, h⟩ := Option.bind_eq_some_iff.1 h
  refine adops.call (by first | trivial | rfl) rfl rfl rfl (fun _ h => h) [] [] (hc_history_check h0 v0 hv3) rfl (by (simp only [go_sem]) <;> (with_reducible and_intros) <;> first | assumption | rfl | omega | (unfold maxLen; omega)) (by (simp only [go_sem]) <;> (with_reducible and_intros) <;> first | assumption | rfl | omega | (unfold maxLen; omega)) rfl ?_
  refine adops_cut 1 (fun K' hK4 => ?_)
  try dsimp only [List.drop_succ_cons, List.drop_zero, List.take_succ_cons, List.take_zero]
  simp only [go_sem]
  repeat (with_reducible refine And.intro (by first | assumption | rfl | omega | trivial | (unfold maxLen; omega)) ?_)
  refine hK4 _ ?_
  obtain ⟨v0_3, hv5, h⟩ := Option.bind_eq_some_iff.1 h
  refine adops.call (by first | trivial | rfl) rfl rfl rfl (fun _ h => h) [] [(1000, 2), (1001, 3)] (hc_history_told_12 v0_2 h0 object hv5) rfl (by (simp only [go_sem]) <;> (with_reducible and_intros) <;> first | assumption | rfl | omega | (unfold maxLen; omega)) (by (simp only [go_sem]) <;> (with_reducible and_intros) <;> first | assumption | rfl | omega | (unfold maxLen; omega)) rfl ?_
  refine adops_cut 4 (fun K' hK6 => ?_)
  try dsimp only [List.drop_succ_cons, List.drop_zero, List.take_succ_cons, List.take_zero]
  simp only [go_sem]
  repeat (with_reducible refine And.intro (by first | assumption | rfl | omega | trivial | (unfold maxLen; omega)) ?_)
  refine hK6 _ ?_
  refine adops_nil ?_
  refine athen_n ?_
  refine zV [(4, .own 21000), (5, .int .i64 v0_3.2)] [(21000, .arr 55 Y1 v0_3.1)] gt ?_
  refine AW.ret ?_
  obtain rfl := Option.some.inj h
  exact zR [] [] [(2000, 21000)]

theorem hc_history_Until_1_1 (c : Int × Int × Int × Int × Int × Int) (a1 : Int) {r : Unit} (h : history_Until_1_1 c a1 = some r) : HC Try.prog 106 [(1000, .box 3 [.int .i64 a1])] [.agg [.int .i64 c.1, .int .i64 c.2.1, .int .i64 c.2.2.1, .int .i64 c.2.2.2.1, .int .i64 c.2.2.2.2.1, .int .i64 c.2.2.2.2.2], .bp 1000 0] [(1000, .box 3 [.int .i64 a1])] (.bool (decide (c.2.2.2.2.1 ≤ a1))) := by
  unfold history_Until_1_1 at h
  refine zH Try.func106 [.tmp 3] 8 ?_
  refine zo ?_
  refine zB [(1, .bp 1000 0), (2, .bp 2 0)] [(2, .box 55 [.int .i64 c.1, .int .i64 c.2.1, .int .i64 c.2.2.1, .int .i64 c.2.2.2.1, .int .i64 c.2.2.2.2.1, .int .i64 c.2.2.2.2.2]), (1000, .box 3 [.int .i64 a1])] ?_
  refine zo ?_
  refine zB [(3, .bool (decide (c.2.2.2.2.1 ≤ a1)))] [(1000, .box 3 [.int .i64 a1])] ?_
  refine AW.ret ?_
  obtain rfl := Option.some.inj h
  exact zR [] [] []

theorem hc_history_those_4 (h0 : List (Int × Int × Int × Int × Int × Int)) (c0 : Int) {r : (List (Int × Int × Int × Int × Int × Int))} (h : history_those_4 h0 c0 = some r) : HC Try.prog 101 [(1000, .box 3 [.int .i64 c0])] [.sl Y1 h0, .fn (.func 106) [] [.bp 1000 0]] [(1000, .box 3 [.int .i64 c0]), (2000, .arr 55 Y1 r)] (.own 2000) := by
  unfold history_those_4 at h
  refine zH Try.func101 [.tmp 4] 23 ?_
  refine zo ?_
  refine zB [(0, .sl Y1 h0), (1, .fn (.func 106) [] [.bp 1000 0])] [(1000, .box 3 [.int .i64 c0])] ?_
  refine zo ?_
  refine zB [(0, .sl Y1 h0), (1, .fn (.func 106) [] [.bp 1000 0]), (5, .cv (.slice none 0 0))] [(1000, .box 3 [.int .i64 c0])] ?_
  refine AW.have1 (fun b1 : (List (Int × Int × Int × Int × Int × Int)) => history_those_4_k1 b1 = some r) (fun b1 => ⟨fr [(5, .own 20)], hpGet [(20, .arr 55 Y1 b1), (1000, .box 3 [.int .i64 c0])], gt⟩) (fun b1 h => ?_) (fun hk_history_those_4_k1 => ?_)
  · unfold history_those_4_k1 at h
    refine zo ?_
    refine zB [(4, .own 20)] [(20, .arr 55 Y1 b1), (1000, .box 3 [.int .i64 c0])] ?_
    refine AW.ret ?_
    obtain rfl := Option.some.inj h
    exact zR [] [] [(2000, 20)]
  · refine AW.seq ?_
    refine zo ?_
    refine zB [(1, .fn (.func 106) [] [.bp 1000 0]), (5, .cv (.slice none 0 0)), (8, .sl Y1 h0), (9, .int .i64 (h0.length : Int)), (10, .int .i64 0)] [(1000, .box 3 [.int .i64 c0])] ?_
    refine AW.block ?_
    obtain ⟨rv5, hw1, ho2⟩ := Option.bind_eq_some_iff.1 h
    refine AW.loopO (history_those_4_b1 h0 c0) (fun st1 => ⟨fr [(1, .fn (.func 106) [] [.bp 1000 0]), (5, .own 20), (8, .sl Y1 h0), (9, .int .i64 (h0.length : Int)), (10, .int .i64 st1.2)], hpGet [(20, .arr 55 Y1 st1.1), (1000, .box 3 [.int .i64 c0])], gt⟩) ([], 0) hw1 (zL [] [20] []) ?_
    intro st1 x4 h hd3
    unfold history_those_4_b1 at h
    refine zo ?_
    refine zB [(1, .fn (.func 106) [] [.bp 1000 0]), (5, .own 20), (8, .sl Y1 h0), (9, .int .i64 (h0.length : Int)), (10, .int .i64 st1.2), (11, .bool (decide (st1.2 < (h0.length : Int))))] [(20, .arr 55 Y1 st1.1), (1000, .box 3 [.int .i64 c0])] ?_
    refine AW.seq ?_
    refine zQ h (fun hb6 h => ?_) (fun hb6 h => ?_)
    ·
      refine zk ?_
      refine AW.seq ?_
      refine AW.block ?_
      refine zo ?_
      obtain ⟨c7, h⟩ := ck_some.1 h
      obtain ⟨c8, h⟩ := ck_some.1 h
      refine zB [(1, .fn (.func 106) [] [.bp 1000 0]), (5, .own 20), (7, .bp 7 0), (8, .sl Y1 h0), (9, .int .i64 (h0.length : Int)), (10, .int .i64 st1.2)] [(7, .box 55 [.int .i64 (h0.getD st1.2.toNat (0, 0, 0, 0, 0, 0)).1, .int .i64 (h0.getD st1.2.toNat (0, 0, 0, 0, 0, 0)).2.1, .int .i64 (h0.getD st1.2.toNat (0, 0, 0, 0, 0, 0)).2.2.1, .int .i64 (h0.getD st1.2.toNat (0, 0, 0, 0, 0, 0)).2.2.2.1, .int .i64 (h0.getD st1.2.toNat (0, 0, 0, 0, 0, 0)).2.2.2.2.1, .int .i64 (h0.getD st1.2.toNat (0, 0, 0, 0, 0, 0)).2.2.2.2.2]), (20, .arr 55 Y1 st1.1), (1000, .box 3 [.int .i64 c0])] ?_
      refine zo ?_
      refine zS 2 [(1, .fn (.func 106) [] [.bp 1000 0]), (5, .own 20), (7, .bp 7 0), (8, .sl Y1 h0), (9, .int .i64 (h0.length : Int)), (10, .int .i64 st1.2), (14, .fn (.func 106) [] [.bp 1000 0]), (15, .agg [.int .i64 (h0.getD st1.2.toNat (0, 0, 0, 0, 0, 0)).1, .int .i64 (h0.getD st1.2.toNat (0, 0, 0, 0, 0, 0)).2.1, .int .i64 (h0.getD st1.2.toNat (0, 0, 0, 0, 0, 0)).2.2.1, .int .i64 (h0.getD st1.2.toNat (0, 0, 0, 0, 0, 0)).2.2.2.1, .int .i64 (h0.getD st1.2.toNat (0, 0, 0, 0, 0, 0)).2.2.2.2.1, .int .i64 (h0.getD st1.2.toNat (0, 0, 0, 0, 0, 0)).2.2.2.2.2])] [(7, .box 55 [.int .i64 (h0.getD st1.2.toNat (0, 0, 0, 0, 0, 0)).1, .int .i64 (h0.getD st1.2.toNat (0, 0, 0, 0, 0, 0)).2.1, .int .i64 (h0.getD st1.2.toNat (0, 0, 0, 0, 0, 0)).2.2.1, .int .i64 (h0.getD st1.2.toNat (0, 0, 0, 0, 0, 0)).2.2.2.1, .int .i64 (h0.getD st1.2.toNat (0, 0, 0, 0, 0, 0)).2.2.2.2.1, .int .i64 (h0.getD st1.2.toNat (0, 0, 0, 0, 0, 0)).2.2.2.2.2]), (20, .arr 55 Y1 st1.1), (1000, .box 3 [.int .i64 c0])] ?_
      obtain ⟨v0, hv9, h⟩ := Option.bind_eq_some_iff.1 h
      refine zC [] [(1000, 1000)] (hc_history_Until_1_1 (h0.getD st1.2.toNat (0, 0, 0, 0, 0, 0)) c0 hv9) [(1, .fn (.func 106) [] [.bp 1000 0]), (5, .own 20), (7, .bp 7 0), (8, .sl Y1 h0), (9, .int .i64 (h0.length : Int)), (10, .int .i64 st1.2), (16, .bool (decide ((h0.getD st1.2.toNat (0, 0, 0, 0, 0, 0)).2.2.2.2.1 ≤ c0)))] [(7, .box 55 [.int .i64 (h0.getD st1.2.toNat (0, 0, 0, 0, 0, 0)).1, .int .i64 (h0.getD st1.2.toNat (0, 0, 0, 0, 0, 0)).2.1, .int .i64 (h0.getD st1.2.toNat (0, 0, 0, 0, 0, 0)).2.2.1, .int .i64 (h0.getD st1.2.toNat (0, 0, 0, 0, 0, 0)).2.2.2.1, .int .i64 (h0.getD st1.2.toNat (0, 0, 0, 0, 0, 0)).2.2.2.2.1, .int .i64 (h0.getD st1.2.toNat (0, 0, 0, 0, 0, 0)).2.2.2.2.2]), (20, .arr 55 Y1 st1.1), (1000, .box 3 [.int .i64 c0])] ?_
      refine zB [(1, .fn (.func 106) [] [.bp 1000 0]), (5, .own 20), (7, .bp 7 0), (8, .sl Y1 h0), (9, .int .i64 (h0.length : Int)), (10, .int .i64 st1.2), (16, .bool (decide ((h0.getD st1.2.toNat (0, 0, 0, 0, 0, 0)).2.2.2.2.1 ≤ c0)))] [(7, .box 55 [.int .i64 (h0.getD st1.2.toNat (0, 0, 0, 0, 0, 0)).1, .int .i64 (h0.getD st1.2.toNat (0, 0, 0, 0, 0, 0)).2.1, .int .i64 (h0.getD st1.2.toNat (0, 0, 0, 0, 0, 0)).2.2.1, .int .i64 (h0.getD st1.2.toNat (0, 0, 0, 0, 0, 0)).2.2.2.1, .int .i64 (h0.getD st1.2.toNat (0, 0, 0, 0, 0, 0)).2.2.2.2.1, .int .i64 (h0.getD st1.2.toNat (0, 0, 0, 0, 0, 0)).2.2.2.2.2]), (20, .arr 55 Y1 st1.1), (1000, .box 3 [.int .i64 c0])] ?_
      refine zQ h (fun hb10 h => ?_) (fun hb10 h => ?_)
      ·
        refine AW.ops ?_
        obtain ⟨c11, h⟩ := ck_some.1 h
        refine zA [(1, .fn (.func 106) [] [.bp 1000 0]), (5, .own 20), (8, .sl Y1 h0), (9, .int .i64 (h0.length : Int)), (10, .int .i64 st1.2)] [(20, .arr 55 Y1 (st1.1 ++ [(h0.getD st1.2.toNat (0, 0, 0, 0, 0, 0))])), (1000, .box 3 [.int .i64 c0])] ?_
        refine ablock_n ?_
        refine athen_n ?_
        refine AW.ops ?_
        obtain ⟨c12, h⟩ := ck_some.1 h
        refine zA [(1, .fn (.func 106) [] [.bp 1000 0]), (5, .own 20), (8, .sl Y1 h0), (9, .int .i64 (h0.length : Int)), (10, .int .i64 (st1.2 + 1))] [(20, .arr 55 Y1 (st1.1 ++ [(h0.getD st1.2.toNat (0, 0, 0, 0, 0, 0))])), (1000, .box 3 [.int .i64 c0])] ?_
        obtain rfl := Option.some.inj h
        exact ⟨_, rfl, zL [] [] []⟩
      ·
        refine zm ?_
        refine athen_n ?_
        refine AW.ops ?_
        obtain ⟨c13, h⟩ := ck_some.1 h
        refine zA [(1, .fn (.func 106) [] [.bp 1000 0]), (5, .own 20), (8, .sl Y1 h0), (9, .int .i64 (h0.length : Int)), (10, .int .i64 (st1.2 + 1))] [(20, .arr 55 Y1 st1.1), (1000, .box 3 [.int .i64 c0])] ?_
        obtain rfl := Option.some.inj h
        exact ⟨_, rfl, zL [] [] []⟩
    ·
      refine AW.exit ?_
      refine athen_e ?_
      obtain rfl := Option.some.inj h
      rw [← hd3 _ rfl] at ho2
      have h := ho2
      refine athen_e ?_
      refine ablock_s ?_
      refine athen_n ?_
      exact AW.weaken (zL [] [] []) (hk_history_those_4_k1 _ h)

theorem hc_history_Until_1 (a0 : List (Int × Int × Int × Int × Int × Int)) (a1 : Int) {r : (List (Int × Int × Int × Int × Int × Int))} (h : history_Until_1 a0 a1 = some r) : HC Try.prog 105 [(1000, .box 23 [.sl Y1 a0]), (1001, .box 3 [.int .i64 a1])] [.bp 1000 0, .bp 1001 0] [(1000, .box 23 [.sl Y1 a0]), (1001, .box 3 [.int .i64 a1]), (2000, .arr 55 Y1 r)] (.own 2000) := by
  unfold history_Until_1 at h
  refine zH Try.func105 [.tmp 2] 30 ?_
  refine zo ?_
  refine zB [(0, .bp 1000 0), (1, .bp 1001 0)] [(1000, .box 23 [.sl Y1 a0]), (1001, .box 3 [.int .i64 a1])] ?_
  refine zo ?_
  refine zS 2 [(1, .bp 1001 0), (6, .sl Y1 a0), (7, .fn (.func 106) [] [.bp 1001 0])] [(1000, .box 23 [.sl Y1 a0]), (1001, .box 3 [.int .i64 a1])] ?_
  obtain ⟨v0, hv1, h⟩ := Option.bind_eq_some_iff.1 h
  refine zC [] [(1000, 1001)] (hc_history_those_4 a0 a1 hv1) [(1, .bp 1001 0), (8, .own 18000)] [(1000, .box 23 [.sl Y1 a0]), (1001, .box 3 [.int .i64 a1]), (18000, .arr 55 Y1 v0)] ?_
  refine zB [(1, .bp 1001 0), (3, .own 18000)] [(1000, .box 23 [.sl Y1 a0]), (1001, .box 3 [.int .i64 a1]), (18000, .arr 55 Y1 v0)] ?_
  refine AW.have1 (fun b1 : (List (Int × Int × Int × Int × Int × Int)) => history_Until_1_k1 b1 = some r) (fun b1 => ⟨fr [(3, .own 18000)], hpGet [(1000, .box 23 [.sl Y1 a0]), (1001, .box 3 [.int .i64 a1]), (18000, .arr 55 Y1 b1)], gt⟩) (fun b1 h => ?_) (fun hk_history_Until_1_k1 => ?_)
  · unfold history_Until_1_k1 at h
    refine zo ?_
    refine zB [(2, .own 18000)] [(1000, .box 23 [.sl Y1 a0]), (1001, .box 3 [.int .i64 a1]), (18000, .arr 55 Y1 b1)] ?_
    refine AW.ret ?_
    obtain rfl := Option.some.inj h
    exact zR [] [] [(2000, 18000)]
  · refine AW.seq ?_
    refine zo ?_
    refine zB [(1, .bp 1001 0), (3, .own 18000), (9, .own 18000), (10, .int .i64 (v0.length : Int)), (11, .int .i64 0)] [(1000, .box 23 [.sl Y1 a0]), (1001, .box 3 [.int .i64 a1]), (18000, .arr 55 Y1 v0)] ?_
    refine AW.block ?_
    obtain ⟨rv6, hw2, ho3⟩ := Option.bind_eq_some_iff.1 h
    refine AW.loopO (history_Until_1_b1 a1 v0) (fun st1 => ⟨fr [(1, .bp 1001 0), (3, .own 18000), (9, .own 18000), (10, .int .i64 (v0.length : Int)), (11, .int .i64 st1.2)], hpGet [(1000, .box 23 [.sl Y1 a0]), (1001, .box 3 [.int .i64 a1]), (18000, .arr 55 Y1 st1.1)], gt⟩) (v0, 0) hw2 (zL [] [] []) ?_
    intro st1 x5 h hd4
    unfold history_Until_1_b1 at h
    refine zo ?_
    refine zB [(1, .bp 1001 0), (3, .own 18000), (9, .own 18000), (10, .int .i64 (v0.length : Int)), (11, .int .i64 st1.2), (12, .bool (decide (st1.2 < (v0.length : Int))))] [(1000, .box 23 [.sl Y1 a0]), (1001, .box 3 [.int .i64 a1]), (18000, .arr 55 Y1 st1.1)] ?_
    refine AW.seq ?_
    refine zQ h (fun hb7 h => ?_) (fun hb7 h => ?_)
    ·
      refine zk ?_
      refine AW.seq ?_
      refine AW.block ?_
      refine zo ?_
      obtain ⟨c8, h⟩ := ck_some.1 h
      obtain ⟨c9, h⟩ := ck_some.1 h
      refine zB [(1, .bp 1001 0), (3, .own 18000), (4, .int .i64 st1.2), (5, .bp 5 0), (9, .own 18000), (10, .int .i64 (v0.length : Int)), (11, .int .i64 st1.2)] [(5, .box 55 [.int .i64 (st1.1.getD st1.2.toNat (0, 0, 0, 0, 0, 0)).1, .int .i64 (st1.1.getD st1.2.toNat (0, 0, 0, 0, 0, 0)).2.1, .int .i64 (st1.1.getD st1.2.toNat (0, 0, 0, 0, 0, 0)).2.2.1, .int .i64 (st1.1.getD st1.2.toNat (0, 0, 0, 0, 0, 0)).2.2.2.1, .int .i64 (st1.1.getD st1.2.toNat (0, 0, 0, 0, 0, 0)).2.2.2.2.1, .int .i64 (st1.1.getD st1.2.toNat (0, 0, 0, 0, 0, 0)).2.2.2.2.2]), (1000, .box 23 [.sl Y1 a0]), (1001, .box 3 [.int .i64 a1]), (18000, .arr 55 Y1 st1.1)] ?_
      refine zo ?_
      refine zB [(1, .bp 1001 0), (3, .own 18000), (4, .int .i64 st1.2), (9, .own 18000), (10, .int .i64 (v0.length : Int)), (11, .int .i64 st1.2), (19, .bool (decide (a1 < (st1.1.getD st1.2.toNat (0, 0, 0, 0, 0, 0)).2.2.2.2.2)))] [(1000, .box 23 [.sl Y1 a0]), (1001, .box 3 [.int .i64 a1]), (18000, .arr 55 Y1 st1.1)] ?_
      refine zQ h (fun hb10 h => ?_) (fun hb10 h => ?_)
      ·
        refine AW.ops ?_
        obtain ⟨c11, h⟩ := ck_some.1 h
        obtain ⟨c12, h⟩ := ck_some.1 h
        obtain ⟨c13, h⟩ := ck_some.1 h
        obtain ⟨c14, h⟩ := ck_some.1 h
        refine zA [(1, .bp 1001 0), (3, .own 18000), (9, .own 18000), (10, .int .i64 (v0.length : Int)), (11, .int .i64 st1.2)] [(1000, .box 23 [.sl Y1 a0]), (1001, .box 3 [.int .i64 a1]), (18000, .arr 55 Y1 ((st1.1.set st1.2.toNat ((st1.1.getD st1.2.toNat (0, 0, 0, 0, 0, 0)).1, (st1.1.getD st1.2.toNat (0, 0, 0, 0, 0, 0)).2.1, (st1.1.getD st1.2.toNat (0, 0, 0, 0, 0, 0)).2.2.1, (st1.1.getD st1.2.toNat (0, 0, 0, 0, 0, 0)).2.2.2.1, (st1.1.getD st1.2.toNat (0, 0, 0, 0, 0, 0)).2.2.2.2.1, 0)).set st1.2.toNat (((st1.1.set st1.2.toNat ((st1.1.getD st1.2.toNat (0, 0, 0, 0, 0, 0)).1, (st1.1.getD st1.2.toNat (0, 0, 0, 0, 0, 0)).2.1, (st1.1.getD st1.2.toNat (0, 0, 0, 0, 0, 0)).2.2.1, (st1.1.getD st1.2.toNat (0, 0, 0, 0, 0, 0)).2.2.2.1, (st1.1.getD st1.2.toNat (0, 0, 0, 0, 0, 0)).2.2.2.2.1, 0)).getD st1.2.toNat (0, 0, 0, 0, 0, 0)).1, ((st1.1.set st1.2.toNat ((st1.1.getD st1.2.toNat (0, 0, 0, 0, 0, 0)).1, (st1.1.getD st1.2.toNat (0, 0, 0, 0, 0, 0)).2.1, (st1.1.getD st1.2.toNat (0, 0, 0, 0, 0, 0)).2.2.1, (st1.1.getD st1.2.toNat (0, 0, 0, 0, 0, 0)).2.2.2.1, (st1.1.getD st1.2.toNat (0, 0, 0, 0, 0, 0)).2.2.2.2.1, 0)).getD st1.2.toNat (0, 0, 0, 0, 0, 0)).2.1, ((st1.1.set st1.2.toNat ((st1.1.getD st1.2.toNat (0, 0, 0, 0, 0, 0)).1, (st1.1.getD st1.2.toNat (0, 0, 0, 0, 0, 0)).2.1, (st1.1.getD st1.2.toNat (0, 0, 0, 0, 0, 0)).2.2.1, (st1.1.getD st1.2.toNat (0, 0, 0, 0, 0, 0)).2.2.2.1, (st1.1.getD st1.2.toNat (0, 0, 0, 0, 0, 0)).2.2.2.2.1, 0)).getD st1.2.toNat (0, 0, 0, 0, 0, 0)).2.2.1, 0, ((st1.1.set st1.2.toNat ((st1.1.getD st1.2.toNat (0, 0, 0, 0, 0, 0)).1, (st1.1.getD st1.2.toNat (0, 0, 0, 0, 0, 0)).2.1, (st1.1.getD st1.2.toNat (0, 0, 0, 0, 0, 0)).2.2.1, (st1.1.getD st1.2.toNat (0, 0, 0, 0, 0, 0)).2.2.2.1, (st1.1.getD st1.2.toNat (0, 0, 0, 0, 0, 0)).2.2.2.2.1, 0)).getD st1.2.toNat (0, 0, 0, 0, 0, 0)).2.2.2.2)))] ?_
        refine ablock_n ?_
        refine athen_n ?_
        refine AW.ops ?_
        obtain ⟨c15, h⟩ := ck_some.1 h
        refine zA [(1, .bp 1001 0), (3, .own 18000), (9, .own 18000), (10, .int .i64 (v0.length : Int)), (11, .int .i64 (st1.2 + 1))] [(1000, .box 23 [.sl Y1 a0]), (1001, .box 3 [.int .i64 a1]), (18000, .arr 55 Y1 ((st1.1.set st1.2.toNat ((st1.1.getD st1.2.toNat (0, 0, 0, 0, 0, 0)).1, (st1.1.getD st1.2.toNat (0, 0, 0, 0, 0, 0)).2.1, (st1.1.getD st1.2.toNat (0, 0, 0, 0, 0, 0)).2.2.1, (st1.1.getD st1.2.toNat (0, 0, 0, 0, 0, 0)).2.2.2.1, (st1.1.getD st1.2.toNat (0, 0, 0, 0, 0, 0)).2.2.2.2.1, 0)).set st1.2.toNat (((st1.1.set st1.2.toNat ((st1.1.getD st1.2.toNat (0, 0, 0, 0, 0, 0)).1, (st1.1.getD st1.2.toNat (0, 0, 0, 0, 0, 0)).2.1, (st1.1.getD st1.2.toNat (0, 0, 0, 0, 0, 0)).2.2.1, (st1.1.getD st1.2.toNat (0, 0, 0, 0, 0, 0)).2.2.2.1, (st1.1.getD st1.2.toNat (0, 0, 0, 0, 0, 0)).2.2.2.2.1, 0)).getD st1.2.toNat (0, 0, 0, 0, 0, 0)).1, ((st1.1.set st1.2.toNat ((st1.1.getD st1.2.toNat (0, 0, 0, 0, 0, 0)).1, (st1.1.getD st1.2.toNat (0, 0, 0, 0, 0, 0)).2.1, (st1.1.getD st1.2.toNat (0, 0, 0, 0, 0, 0)).2.2.1, (st1.1.getD st1.2.toNat (0, 0, 0, 0, 0, 0)).2.2.2.1, (st1.1.getD st1.2.toNat (0, 0, 0, 0, 0, 0)).2.2.2.2.1, 0)).getD st1.2.toNat (0, 0, 0, 0, 0, 0)).2.1, ((st1.1.set st1.2.toNat ((st1.1.getD st1.2.toNat (0, 0, 0, 0, 0, 0)).1, (st1.1.getD st1.2.toNat (0, 0, 0, 0, 0, 0)).2.1, (st1.1.getD st1.2.toNat (0, 0, 0, 0, 0, 0)).2.2.1, (st1.1.getD st1.2.toNat (0, 0, 0, 0, 0, 0)).2.2.2.1, (st1.1.getD st1.2.toNat (0, 0, 0, 0, 0, 0)).2.2.2.2.1, 0)).getD st1.2.toNat (0, 0, 0, 0, 0, 0)).2.2.1, 0, ((st1.1.set st1.2.toNat ((st1.1.getD st1.2.toNat (0, 0, 0, 0, 0, 0)).1, (st1.1.getD st1.2.toNat (0, 0, 0, 0, 0, 0)).2.1, (st1.1.getD st1.2.toNat (0, 0, 0, 0, 0, 0)).2.2.1, (st1.1.getD st1.2.toNat (0, 0, 0, 0, 0, 0)).2.2.2.1, (st1.1.getD st1.2.toNat (0, 0, 0, 0, 0, 0)).2.2.2.2.1, 0)).getD st1.2.toNat (0, 0, 0, 0, 0, 0)).2.2.2.2)))] ?_
        obtain rfl := Option.some.inj h
        exact ⟨_, rfl, zL [] [] []⟩
      ·
        refine zm ?_
        refine athen_n ?_
        refine AW.ops ?_
        obtain ⟨c16, h⟩ := ck_some.1 h
        refine zA [(1, .bp 1001 0), (3, .own 18000), (9, .own 18000), (10, .int .i64 (v0.length : Int)), (11, .int .i64 (st1.2 + 1))] [(1000, .box 23 [.sl Y1 a0]), (1001, .box 3 [.int .i64 a1]), (18000, .arr 55 Y1 st1.1)] ?_
        obtain rfl := Option.some.inj h
        exact ⟨_, rfl, zL [] [] []⟩
    ·
      refine AW.exit ?_
      refine athen_e ?_
      obtain rfl := Option.some.inj h
      rw [← hd4 _ rfl] at ho3
      have h := ho3
      refine athen_e ?_
      refine ablock_s ?_
      refine athen_n ?_
      exact AW.weaken (zL [] [] []) (hk_history_Until_1_k1 _ h)

theorem hc_history_told_14 (err : Int) (c0 : List (Int × Int × Int × Int × Int × Int)) (c1 : Int) {r : (List (Int × Int × Int × Int × Int × Int)) × Int} (h : history_told_14 err c0 c1 = some r) : HC Try.prog 98 [(1000, .box 23 [.sl Y1 c0]), (1001, .box 3 [.int .i64 c1])] [.int .i64 err, .fn (.func 105) [] [.bp 1000 0, .bp 1001 0]] [(2000, .arr 55 Y1 r.1)] (.tup [.own 2000, .int .i64 r.2]) := by
  unfold history_told_14 at h
  refine zH Try.func98 [.tmp 4, .tmp 5] 13 ?_
  refine zo ?_
  refine zB [(0, .int .i64 err), (1, .fn (.func 105) [] [.bp 1000 0, .bp 1001 0])] [(1000, .box 23 [.sl Y1 c0]), (1001, .box 3 [.int .i64 c1])] ?_
  refine AW.seq ?_
  refine zo ?_
  refine zB [(0, .int .i64 err), (1, .fn (.func 105) [] [.bp 1000 0, .bp 1001 0]), (8, .bool (!(decide (err = 0))))] [(1000, .box 23 [.sl Y1 c0]), (1001, .box 3 [.int .i64 c1])] ?_
  refine zQ h (fun hb1 h => ?_) (fun hb1 h => ?_)
  ·
    refine zo ?_
    refine zB [(0, .int .i64 err), (6, .cv (.slice none 0 0))] [(1000, .box 23 [.sl Y1 c0]), (1001, .box 3 [.int .i64 c1])] ?_
    refine zo ?_
    refine zB [(4, .cv (.slice none 0 0)), (5, .int .i64 err)] [(1000, .box 23 [.sl Y1 c0]), (1001, .box 3 [.int .i64 c1])] ?_
    refine zr ?_
    obtain rfl := Option.some.inj h
    exact zR [] [2000] []
  ·
    refine zk ?_
    refine zo ?_
    refine zS 1 [(11, .fn (.func 105) [] [.bp 1000 0, .bp 1001 0])] [(1000, .box 23 [.sl Y1 c0]), (1001, .box 3 [.int .i64 c1])] ?_
    obtain ⟨v0, hv2, h⟩ := Option.bind_eq_some_iff.1 h
    refine zC [] [(1000, 1000), (1001, 1001)] (hc_history_Until_1 c0 c1 hv2) [(12, .own 22000)] [(1000, .box 23 [.sl Y1 c0]), (1001, .box 3 [.int .i64 c1]), (22000, .arr 55 Y1 v0)] ?_
    refine zB [(4, .own 22000), (5, .int .i64 0)] [(1000, .box 23 [.sl Y1 c0]), (1001, .box 3 [.int .i64 c1]), (22000, .arr 55 Y1 v0)] ?_
    refine AW.ret ?_
    obtain rfl := Option.some.inj h
    exact zR [] [] [(2000, 22000)]

theorem hc_history_Until (h0 : List (Int × Int × Int × Int × Int × Int)) (moment : Int) {r : (List (Int × Int × Int × Int × Int × Int)) × Int} (h : history_Until h0 moment = some r) : HC Try.prog 46 [] [.sl Y1 h0, .int .i64 moment] [(2000, .arr 55 Y1 r.1)] (.tup [.own 2000, .int .i64 r.2]) := by
  unfold history_Until at h
  refine zH Try.func46 [.tmp 4, .tmp 5] 14 ?_
  refine zo ?_
  refine zB [(2, .bp 2 0), (3, .bp 3 0)] [(2, .box 23 [.sl Y1 h0]), (3, .box 3 [.int .i64 moment])] ?_
  refine AW.seq ?_
  refine AW.draw tab_ok mixed_ok [(5, [2, 3, 21000])] [] (by decide) (by kernel_rfl) ?_
  refine adops_cut 2 (fun K' hK1 => ?_)
  try dsimp only [List.drop_succ_cons, List.drop_zero, List.take_succ_cons, List.take_zero]
  simp only [go_sem]
  repeat (with_reducible refine And.intro (by first | assumption | rfl | omega | trivial | (unfold maxLen; omega)) ?_)
  refine hK1 _ ?_
  obtain ⟨v0, hv2, h⟩ := Option.bind_eq_some_iff.1 h
  refine adops.call (by first | trivial | rfl) rfl rfl rfl (fun _ h => h) [] [] (hc_history_within moment 0 100 hv2) rfl (by (simp only [go_sem]) <;> (with_reducible and_intros) <;> first | assumption | rfl | omega | (unfold maxLen; omega)) (by (simp only [go_sem]) <;> (with_reducible and_intros) <;> first | assumption | rfl | omega | (unfold maxLen; omega)) rfl ?_
  obtain ⟨v0_2, hv3, h⟩ := Option.bind_eq_some_iff.1 h
  refine adops.call (by first | trivial | rfl) rfl rfl rfl (fun _ h => h) [] [] (hc_history_check h0 v0 hv3) rfl (by (simp only [go_sem]) <;> (with_reducible and_intros) <;> first | assumption | rfl | omega | (unfold maxLen; omega)) (by (simp only [go_sem]) <;> (with_reducible and_intros) <;> first | assumption | rfl | omega | (unfold maxLen; omega)) rfl ?_
  refine adops_cut 1 (fun K' hK4 => ?_)
  try dsimp only [List.drop_succ_cons, List.drop_zero, List.take_succ_cons, List.take_zero]
  simp only [go_sem]
  repeat (with_reducible refine And.intro (by first | assumption | rfl | omega | trivial | (unfold maxLen; omega)) ?_)
  refine hK4 _ ?_
  obtain ⟨v0_3, hv5, h⟩ := Option.bind_eq_some_iff.1 h
  refine adops.call (by first | trivial | rfl) rfl rfl rfl (fun _ h => h) [] [(1000, 2), (1001, 3)] (hc_history_told_14 v0_2 h0 moment hv5) rfl (by (simp only [go_sem]) <;> (with_reducible and_intros) <;> first | assumption | rfl | omega | (unfold maxLen; omega)) (by (simp only [go_sem]) <;> (with_reducible and_intros) <;> first | assumption | rfl | omega | (unfold maxLen; omega)) rfl ?_
  refine adops_cut 4 (fun K' hK6 => ?_)
  try dsimp only [List.drop_succ_cons, List.drop_zero, List.take_succ_cons, List.take_zero]
  simp only [go_sem]
  repeat (with_reducible refine And.intro (by first | assumption | rfl | omega | trivial | (unfold maxLen; omega)) ?_)
  refine hK6 _ ?_
  refine adops_nil ?_
  refine athen_n ?_
  refine zV [(4, .own 21000), (5, .int .i64 v0_3.2)] [(21000, .arr 55 Y1 v0_3.1)] gt ?_
  refine AW.ret ?_
  obtain rfl := Option.some.inj h
  exact zR [] [] [(2000, 21000)]

theorem hc_slices_Clone (s : List (Int × Int × Int × Int × Int × Int)) {r : (List (Int × Int × Int × Int × Int × Int))} (h : slices_Clone s = some r) : HC Try.prog 111 [] [.sl Y1 s] [(2000, .arr 55 Y1 r)] (.own 2000) := by
  unfold slices_Clone at h
  refine zH Try.func111 [.tmp 2] 8 ?_
  refine zo ?_
  refine zB [(0, .sl Y1 s)] [] ?_
  refine AW.seq ?_
  refine zo ?_
  refine zS 1 [(0, .sl Y1 s), (3, .sl Y1 s)] [] ?_
  refine AO.nilEq (neg := false) tab_ok (by decide) rfl rfl tab_23 rfl rfl rfl (fun hnil1 => ?_) ?_
  · have h : (some []) = some r := by
      first | (simp only [hnil1] at h ⊢; simpa [ck] using h) | (simp [hnil1, ck] at h ⊢; first | done | exact h)
    refine zT [(0, .sl Y1 s), (4, .bool true)] [] gt ?_
    refine zB [(0, .sl Y1 s), (4, .bool true)] [] ?_
    refine AW.cond (b := true) rfl (fun _ => ?_) (fun hb2 => by cases hb2)
    refine zo ?_
    refine zB [(2, .cv (.slice none 0 0))] [] ?_
    refine zr ?_
    obtain rfl := Option.some.inj h
    exact zR [] [2000] []
  · refine zT [(0, .sl Y1 s), (4, .bool false)] [] gt ?_
    refine zB [(0, .sl Y1 s), (4, .bool false)] [] ?_
    refine AW.cond (b := false) rfl (fun hb3 => by cases hb3) (fun _ => ?_)
    refine zk ?_
    refine zo ?_
    obtain ⟨c4, h⟩ := ck_some.1 h
    refine zB [(2, .own 7)] [(7, .arr 55 Y1 s)] ?_
    refine AW.ret ?_
    obtain rfl := Option.some.inj h
    exact zR [] [] [(2000, 7)]

theorem hc_history_states_answer_2 (specs : List (Int × Int × (List (List Int)) × (List (List Int)))) (c : Int × Int × Int × Int × Int × Int) (s : Int × Int) {r : Int × Int × Int} (h : history_states_answer_2 specs c s = some r) : HC Try.prog 113 [(1000, .box 92 [.int .i64 s.1, .int .i64 s.2])] [.bp 1000 0, .sl Y0 specs, .agg [.int .i64 c.1, .int .i64 c.2.1, .int .i64 c.2.2.1, .int .i64 c.2.2.2.1, .int .i64 c.2.2.2.2.1, .int .i64 c.2.2.2.2.2]] [(1000, .box 92 [.int .i64 r.2.1, .int .i64 r.2.2])] (.int .i64 r.1) := by
  unfold history_states_answer_2 at h
  refine zH Try.func113 [.tmp 6] 43 ?_
  refine zo ?_
  refine zB [(0, .bp 1000 0), (1, .sl Y0 specs), (5, .bp 5 0)] [(5, .box 55 [.int .i64 c.1, .int .i64 c.2.1, .int .i64 c.2.2.1, .int .i64 c.2.2.2.1, .int .i64 c.2.2.2.2.1, .int .i64 c.2.2.2.2.2]), (1000, .box 92 [.int .i64 s.1, .int .i64 s.2])] ?_
  refine AW.have1 (fun b1 : Int × Int × Int × (List (List Int)) × (List (List Int)) × Int => history_states_answer_2_k1 c s b1 = some r) (fun b1 => ⟨fr [(0, .bp 1000 0), (5, .bp 5 0), (7, .bp 7 0), (8, .int .i64 b1.2.2.2.2.2)], hpGet [(5, .box 55 [.int .i64 c.1, .int .i64 b1.1, .int .i64 c.2.2.1, .int .i64 c.2.2.2.1, .int .i64 c.2.2.2.2.1, .int .i64 c.2.2.2.2.2]), (7, .box 64 [.int .i64 b1.2.1, .int .i64 b1.2.2.1, .sl (.sl (.int .i64)) b1.2.2.2.1, .sl (.sl (.int .i64)) b1.2.2.2.2.1]), (1000, .box 92 [.int .i64 s.1, .int .i64 s.2])], gt⟩) (fun b1 h => ?_) (fun hk_history_states_answer_2_k1 => ?_)
  · unfold history_states_answer_2_k1 at h
    refine AW.have1 (fun b2 : Int × Int × Int => history_states_answer_2_k2 c b1 b2 = some r) (fun b2 => ⟨fr [(5, .bp 5 0), (7, .bp 7 0), (8, .int .i64 b1.2.2.2.2.2)], hpGet [(5, .box 55 [.int .i64 c.1, .int .i64 b2.1, .int .i64 c.2.2.1, .int .i64 c.2.2.2.1, .int .i64 c.2.2.2.2.1, .int .i64 c.2.2.2.2.2]), (7, .box 64 [.int .i64 b1.2.1, .int .i64 b1.2.2.1, .sl (.sl (.int .i64)) b1.2.2.2.1, .sl (.sl (.int .i64)) b1.2.2.2.2.1]), (1000, .box 92 [.int .i64 b2.2.1, .int .i64 b2.2.2])], gt⟩) (fun b2 h => ?_) (fun hk_history_states_answer_2_k2 => ?_)
    · unfold history_states_answer_2_k2 at h
      refine AW.seq ?_
      refine AW.draw tab_ok mixed_ok [] [] (by decide) (by kernel_rfl) ?_
      obtain ⟨c2, h⟩ := ck_some.1 h
      obtain ⟨c3, h⟩ := ck_some.1 h
      refine adops_cut 6 (fun K' hK1 => ?_)
      try dsimp only [List.drop_succ_cons, List.drop_zero, List.take_succ_cons, List.take_zero]
      simp only [go_sem]
      repeat (with_reducible refine And.intro (by first | assumption | rfl | omega | trivial | (unfold maxLen; omega)) ?_)
      refine hK1 _ ?_
      obtain ⟨c5, h⟩ := ck_some.1 h
      obtain ⟨c6, h⟩ := ck_some.1 h
      refine adops_cut 4 (fun K' hK4 => ?_)
      try dsimp only [List.drop_succ_cons, List.drop_zero, List.take_succ_cons, List.take_zero]
      simp only [go_sem]
      repeat (with_reducible refine And.intro (by first | assumption | rfl | omega | trivial | (unfold maxLen; omega)) ?_)
      refine hK4 _ ?_
      refine adops_nil ?_
      refine athen_n ?_
      refine zV [(6, .int .i64 ((b1.2.2.2.2.1.getD b1.2.2.2.2.2.toNat []).getD c.2.2.1.toNat 0))] [(1000, .box 92 [.int .i64 b2.2.1, .int .i64 b2.2.2])] gt ?_
      refine AW.ret ?_
      obtain rfl := Option.some.inj h
      exact zR [] [] []
    · refine AW.seq ?_
      refine AW.draw tab_ok mixed_ok [(14, [1000])] [] (by decide) (by kernel_rfl) ?_
      refine adops_cut 6 (fun K' hK7 => ?_)
      try dsimp only [List.drop_succ_cons, List.drop_zero, List.take_succ_cons, List.take_zero]
      simp only [go_sem]
      repeat (with_reducible refine And.intro (by first | assumption | rfl | omega | trivial | (unfold maxLen; omega)) ?_)
      refine hK7 _ ?_
      obtain ⟨c9, h⟩ := ck_some.1 h
      obtain ⟨c10, h⟩ := ck_some.1 h
      obtain ⟨c11, h⟩ := ck_some.1 h
      obtain ⟨c12, h⟩ := ck_some.1 h
      refine adops_cut 6 (fun K' hK8 => ?_)
      try dsimp only [List.drop_succ_cons, List.drop_zero, List.take_succ_cons, List.take_zero]
      simp only [go_sem]
      repeat (with_reducible refine And.intro (by first | assumption | rfl | omega | trivial | (unfold maxLen; omega)) ?_)
      refine hK8 _ ?_
      obtain ⟨c14, h⟩ := ck_some.1 h
      obtain ⟨c15, h⟩ := ck_some.1 h
      refine adops_cut 1 (fun K' hK13 => ?_)
      try dsimp only [List.drop_succ_cons, List.drop_zero, List.take_succ_cons, List.take_zero]
      simp only [go_sem]
      repeat (with_reducible refine And.intro (by first | assumption | rfl | omega | trivial | (unfold maxLen; omega)) ?_)
      refine hK13 _ ?_
      rcases Bool.eq_false_or_eq_true (decide (b1.1 = 0)) with hb16 | hb16
      · rw [if_pos hb16] at h
        have hz17 : b1.1 = 0 := by simpa using hb16
        refine adops_cut 2 (fun K' hK18 => ?_)
        try dsimp only [List.drop_succ_cons, List.drop_zero, List.take_succ_cons, List.take_zero]
        simp only [go_sem, hb16, hz17]
        repeat (with_reducible refine And.intro (by first | assumption | rfl | omega | trivial | (unfold maxLen; omega)) ?_)
        refine hK18 _ ?_
        refine adops_nil ?_
        refine athen_n ?_
        refine zV [(5, .bp 5 0), (7, .bp 7 0), (8, .int .i64 b1.2.2.2.2.2)] [(5, .box 55 [.int .i64 c.1, .int .i64 0, .int .i64 c.2.2.1, .int .i64 c.2.2.2.1, .int .i64 c.2.2.2.2.1, .int .i64 c.2.2.2.2.2]), (7, .box 64 [.int .i64 b1.2.1, .int .i64 b1.2.2.1, .sl (.sl (.int .i64)) b1.2.2.2.1, .sl (.sl (.int .i64)) b1.2.2.2.2.1]), (1000, .box 92 [.int .i64 ((b1.2.2.2.1.getD b1.2.2.2.2.2.toNat []).getD c.2.2.1.toNat 0), .int .i64 s.2])] gt ?_
        exact AW.weaken (zL [] [] []) (hk_history_states_answer_2_k2 _ h)
      · rw [if_neg (Bool.eq_false_iff.1 hb16)] at h
        have hz17 : b1.1 = 1 := by have := of_decide_eq_false hb16; omega
        refine adops_cut 2 (fun K' hK19 => ?_)
        try dsimp only [List.drop_succ_cons, List.drop_zero, List.take_succ_cons, List.take_zero]
        simp only [go_sem, hb16, hz17]
        repeat (with_reducible refine And.intro (by first | assumption | rfl | omega | trivial | (unfold maxLen; omega)) ?_)
        refine hK19 _ ?_
        refine adops_nil ?_
        refine athen_n ?_
        refine zV [(5, .bp 5 0), (7, .bp 7 0), (8, .int .i64 b1.2.2.2.2.2)] [(5, .box 55 [.int .i64 c.1, .int .i64 1, .int .i64 c.2.2.1, .int .i64 c.2.2.2.1, .int .i64 c.2.2.2.2.1, .int .i64 c.2.2.2.2.2]), (7, .box 64 [.int .i64 b1.2.1, .int .i64 b1.2.2.1, .sl (.sl (.int .i64)) b1.2.2.2.1, .sl (.sl (.int .i64)) b1.2.2.2.2.1]), (1000, .box 92 [.int .i64 s.1, .int .i64 ((b1.2.2.2.1.getD b1.2.2.2.2.2.toNat []).getD c.2.2.1.toNat 0)])] gt ?_
        exact AW.weaken (zL [] [] []) (hk_history_states_answer_2_k2 _ h)
  · refine AW.seq ?_
    refine AW.draw tab_ok mixed_ok [(11, [7]), (12, [7])] [(0, []), (1, [5]), (2, [5]), (3, []), (4, []), (5, [1000]), (6, [5]), (7, [5]), (8, [1000]), (9, [1000, 999999]), (10, [1000]), (100012, [])] (by decide) (by kernel_rfl) ?_
    obtain ⟨c21, h⟩ := ck_some.1 h
    obtain ⟨c22, h⟩ := ck_some.1 h
    refine adops_cut 6 (fun K' hK20 => ?_)
    try dsimp only [List.drop_succ_cons, List.drop_zero, List.take_succ_cons, List.take_zero]
    simp only [go_sem]
    repeat (with_reducible refine And.intro (by first | assumption | rfl | omega | trivial | (unfold maxLen; omega)) ?_)
    refine hK20 _ ?_
    obtain ⟨c24, h⟩ := ck_some.1 h
    obtain ⟨c25, h⟩ := ck_some.1 h
    refine adops_cut 3 (fun K' hK23 => ?_)
    try dsimp only [List.drop_succ_cons, List.drop_zero, List.take_succ_cons, List.take_zero]
    simp only [go_sem]
    repeat (with_reducible refine And.intro (by first | assumption | rfl | omega | trivial | (unfold maxLen; omega)) ?_)
    refine hK23 _ ?_
    rcases Bool.eq_false_or_eq_true (decide (c.2.1 = 0)) with hb26 | hb26
    · rw [if_pos hb26] at h
      have hz27 : c.2.1 = 0 := by simpa using hb26
      refine adops_cut 5 (fun K' hK28 => ?_)
      try dsimp only [List.drop_succ_cons, List.drop_zero, List.take_succ_cons, List.take_zero]
      simp only [go_sem, hb26, hz27]
      repeat (with_reducible refine And.intro (by first | assumption | rfl | omega | trivial | (unfold maxLen; omega)) ?_)
      refine hK28 _ ?_
      refine adops_nil ?_
      refine athen_n ?_
      refine zV [(0, .bp 1000 0), (5, .bp 5 0), (7, .bp 7 0), (8, .int .i64 s.1)] [(5, .box 55 [.int .i64 c.1, .int .i64 0, .int .i64 c.2.2.1, .int .i64 c.2.2.2.1, .int .i64 c.2.2.2.2.1, .int .i64 c.2.2.2.2.2]), (7, .box 64 [.int .i64 (specs.getD 0 (0, 0, [], [])).1, .int .i64 (specs.getD 0 (0, 0, [], [])).2.1, .sl (.sl (.int .i64)) (specs.getD 0 (0, 0, [], [])).2.2.1, .sl (.sl (.int .i64)) (specs.getD 0 (0, 0, [], [])).2.2.2]), (1000, .box 92 [.int .i64 s.1, .int .i64 s.2])] gt ?_
      exact AW.weaken (zL [] [] []) (hk_history_states_answer_2_k1 _ h)
    · rw [if_neg (Bool.eq_false_iff.1 hb26)] at h
      have hz27 : c.2.1 = 1 := by have := of_decide_eq_false hb26; omega
      refine adops_cut 5 (fun K' hK29 => ?_)
      try dsimp only [List.drop_succ_cons, List.drop_zero, List.take_succ_cons, List.take_zero]
      simp only [go_sem, hb26, hz27]
      repeat (with_reducible refine And.intro (by first | assumption | rfl | omega | trivial | (unfold maxLen; omega)) ?_)
      refine hK29 _ ?_
      refine adops_nil ?_
      refine athen_n ?_
      refine zV [(0, .bp 1000 0), (5, .bp 5 0), (7, .bp 7 0), (8, .int .i64 s.2)] [(5, .box 55 [.int .i64 c.1, .int .i64 1, .int .i64 c.2.2.1, .int .i64 c.2.2.2.1, .int .i64 c.2.2.2.2.1, .int .i64 c.2.2.2.2.2]), (7, .box 64 [.int .i64 (specs.getD 1 (0, 0, [], [])).1, .int .i64 (specs.getD 1 (0, 0, [], [])).2.1, .sl (.sl (.int .i64)) (specs.getD 1 (0, 0, [], [])).2.2.1, .sl (.sl (.int .i64)) (specs.getD 1 (0, 0, [], [])).2.2.2]), (1000, .box 92 [.int .i64 s.1, .int .i64 s.2])] gt ?_
      exact AW.weaken (zL [] [] []) (hk_history_states_answer_2_k1 _ h)

theorem hc_history_Longer_1 (a0 : List (Int × Int × Int × Int × Int × Int)) {r : Unit} (h : history_Longer_1 a0 = some r) : HC Try.prog 114 [(1000, .box 23 [.own 1001]), (1001, .arr 55 Y1 a0)] [.bp 1000 0] [(1000, .box 23 [.own 1001]), (1001, .arr 55 Y1 a0)] (.own 1001) := by
  unfold history_Longer_1 at h
  refine zH Try.func114 [.tmp 1] 3 ?_
  refine zo ?_
  refine zB [(0, .bp 1000 0)] [(1000, .box 23 [.own 1001]), (1001, .arr 55 Y1 a0)] ?_
  refine zo ?_
  refine zB [(1, .own 1001)] [(1000, .box 23 [.own 1001]), (1001, .arr 55 Y1 a0)] ?_
  refine AW.ret ?_
  obtain rfl := Option.some.inj h
  exact zR [] [] []

theorem hc_history_told_17 (c0 : List (Int × Int × Int × Int × Int × Int)) {r : Unit} (h : history_told_17 c0 = some r) : HC Try.prog 98 [(1000, .box 23 [.own 1001]), (1001, .arr 55 Y1 c0)] [.int .i64 0, .fn (.func 114) [] [.bp 1000 0]] [(1001, .arr 55 Y1 c0)] (.tup [.own 1001, .int .i64 0]) := by
  unfold history_told_17 at h
  refine zH Try.func98 [.tmp 4, .tmp 5] 13 ?_
  refine zo ?_
  refine zB [(0, .int .i64 0), (1, .fn (.func 114) [] [.bp 1000 0])] [(1000, .box 23 [.own 1001]), (1001, .arr 55 Y1 c0)] ?_
  refine AW.seq ?_
  refine zo ?_
  refine zB [(0, .int .i64 0), (1, .fn (.func 114) [] [.bp 1000 0]), (8, .bool false)] [(1000, .box 23 [.own 1001]), (1001, .arr 55 Y1 c0)] ?_
  refine AW.cond (b := false) rfl (fun hb1 => by cases hb1) (fun _ => ?_)
  refine zk ?_
  refine zo ?_
  refine zS 1 [(11, .fn (.func 114) [] [.bp 1000 0])] [(1000, .box 23 [.own 1001]), (1001, .arr 55 Y1 c0)] ?_
  obtain ⟨v0, hv2, h⟩ := Option.bind_eq_some_iff.1 h
  refine zC [] [(1000, 1000), (1001, 1001)] (hc_history_Longer_1 c0 hv2) [(12, .own 1001)] [(1000, .box 23 [.own 1001]), (1001, .arr 55 Y1 c0)] ?_
  refine zB [(4, .own 1001), (5, .int .i64 0)] [(1000, .box 23 [.own 1001]), (1001, .arr 55 Y1 c0)] ?_
  refine AW.ret ?_
  obtain rfl := Option.some.inj h
  exact zR [] [] []

theorem hc_history_told_18 (err : Int) (c0 : List (Int × Int × Int × Int × Int × Int)) (hnz_err : decide (err = 0) = false) {r : Unit} (h : history_told_18 err c0 = some r) : HC Try.prog 98 [(1000, .box 23 [.own 1001]), (1001, .arr 55 Y1 c0)] [.int .i64 err, .fn (.func 114) [] [.bp 1000 0]] [] (.tup [.cv (.slice none 0 0), .int .i64 err]) := by
  unfold history_told_18 at h
  refine zH Try.func98 [.tmp 4, .tmp 5] 13 ?_
  refine zo ?_
  refine zB [(0, .int .i64 err), (1, .fn (.func 114) [] [.bp 1000 0])] [(1000, .box 23 [.own 1001]), (1001, .arr 55 Y1 c0)] ?_
  refine AW.seq ?_
  refine zo ?_
  refine zB [(0, .int .i64 err), (1, .fn (.func 114) [] [.bp 1000 0]), (8, .bool true)] [(1000, .box 23 [.own 1001]), (1001, .arr 55 Y1 c0)] ?_
  refine AW.cond (b := true) rfl (fun _ => ?_) (fun hb1 => by cases hb1)
  refine zo ?_
  refine zB [(0, .int .i64 err), (6, .cv (.slice none 0 0))] [(1000, .box 23 [.own 1001]), (1001, .arr 55 Y1 c0)] ?_
  refine zo ?_
  refine zB [(4, .cv (.slice none 0 0)), (5, .int .i64 err)] [(1000, .box 23 [.own 1001]), (1001, .arr 55 Y1 c0)] ?_
  refine zr ?_
  obtain rfl := Option.some.inj h
  exact zR [] [] []

theorem hc_history_Longer (h0 : List (Int × Int × Int × Int × Int × Int)) (call : Int) (from0 : Int) (to0 : Int) {r : (List (Int × Int × Int × Int × Int × Int)) × Int} (h : history_Longer h0 call from0 to0 = some r) : HC Try.prog 54 [] [.sl Y1 h0, .int .i64 call, .int .i64 from0, .int .i64 to0] [(2000, .arr 55 Y1 r.1)] (.tup [.own 2000, .int .i64 r.2]) := by
  unfold history_Longer at h
  refine zH Try.func54 [.tmp 8, .tmp 9] 65 ?_
  refine zo ?_
  refine zB [(0, .sl Y1 h0), (1, .int .i64 call), (2, .int .i64 from0), (3, .int .i64 to0)] [] ?_
  refine zo ?_
  refine zS 1 [(0, .sl Y1 h0), (1, .int .i64 call), (2, .int .i64 from0), (3, .int .i64 to0), (12, .sl Y1 h0)] [] ?_
  obtain ⟨v0, hv1, h⟩ := Option.bind_eq_some_iff.1 h
  refine zC [] [] (hc_slices_Clone h0 hv1) [(0, .sl Y1 h0), (1, .int .i64 call), (2, .int .i64 from0), (3, .int .i64 to0), (13, .own 23000)] [(23000, .arr 55 Y1 v0)] ?_
  refine zB [(0, .sl Y1 h0), (1, .int .i64 call), (2, .int .i64 from0), (3, .int .i64 to0), (10, .bp 10 0)] [(10, .box 23 [.own 23000]), (23000, .arr 55 Y1 v0)] ?_
  refine AW.have1 (fun b1 : Bool => history_Longer_k1 h0 call from0 to0 v0 b1 = some r) (fun b1 => ⟨fr [(0, .sl Y1 h0), (1, .int .i64 call), (2, .int .i64 from0), (3, .int .i64 to0), (10, .bp 10 0), (11, .bool b1)], hpGet [(10, .box 23 [.own 23000]), (23000, .arr 55 Y1 v0)], gt⟩) (fun b1 h => ?_) (fun hk_history_Longer_k1 => ?_)
  · unfold history_Longer_k1 at h
    refine AW.have1 (fun b2 : (List (Int × Int × Int × Int × Int × Int)) => history_Longer_k2 h0 b1 b2 = some r) (fun b2 => ⟨fr [(0, .sl Y1 h0), (10, .bp 10 0), (11, .bool b1)], hpGet [(10, .box 23 [.own 23000]), (23000, .arr 55 Y1 b2)], gt⟩) (fun b2 h => ?_) (fun hk_history_Longer_k2 => ?_)
    · unfold history_Longer_k2 at h
      refine zo ?_
      refine zS 3 [(10, .bp 10 0), (54, .sl Y1 h0), (56, .bool b1)] [(10, .box 23 [.own 23000]), (23000, .arr 55 Y1 b2)] ?_
      rcases zI h with ⟨hb2, h⟩ | ⟨hb2, h⟩
      ·
        refine zT [(10, .bp 10 0), (54, .sl Y1 h0), (56, .bool true)] [(10, .box 23 [.own 23000]), (23000, .arr 55 Y1 b2)] gt ?_
        refine zS 1 [(10, .bp 10 0), (54, .sl Y1 h0), (56, .bool true), (57, .own 23000)] [(10, .box 23 [.own 23000]), (23000, .arr 55 Y1 b2)] ?_
        obtain ⟨v0_3, hv3, h⟩ := Option.bind_eq_some_iff.1 h
        refine zG [23000] [] (hc_history_Valid b2 hv3) [(10, .bp 10 0), (54, .sl Y1 h0), (56, .bool true), (58, .bool v0_3)] [(10, .box 23 [.own 23000]), (23000, .arr 55 Y1 b2)] ?_
        refine zS 1 [(10, .bp 10 0), (54, .sl Y1 h0), (59, .bool v0_3)] [(10, .box 23 [.own 23000]), (23000, .arr 55 Y1 b2)] ?_
        obtain ⟨v0_4, hv4, h⟩ := Option.bind_eq_some_iff.1 h
        refine zC [] [] (hc_history_check h0 v0_3 hv4) [(10, .bp 10 0), (60, .int .i64 v0_4)] [(10, .box 23 [.own 23000]), (23000, .arr 55 Y1 b2)] ?_
        refine zS 1 [(60, .int .i64 v0_4), (61, .fn (.func 114) [] [.bp 10 0])] [(10, .box 23 [.own 23000]), (23000, .arr 55 Y1 b2)] ?_
        rcases Bool.eq_false_or_eq_true (decide (v0_4 = 0)) with hb5 | hb5
        · rw [if_pos hb5] at h
          have hz6 : v0_4 = 0 := by simpa using hb5
          refine zT [(60, .int .i64 0), (61, .fn (.func 114) [] [.bp 10 0])] [(10, .box 23 [.own 23000]), (23000, .arr 55 Y1 b2)] gt ?_
          obtain ⟨v0_5, hv7, h⟩ := Option.bind_eq_some_iff.1 h
          refine zC [] [(1000, 10), (1001, 23000)] (hc_history_told_17 b2 hv7) [(62, .tup [.own 23000, .int .i64 0])] [(23000, .arr 55 Y1 b2)] ?_
          refine zB [(8, .own 23000), (9, .int .i64 0)] [(23000, .arr 55 Y1 b2)] ?_
          refine AW.ret ?_
          obtain rfl := Option.some.inj h
          exact zR [] [] [(2000, 23000)]
        · rw [if_neg (Bool.eq_false_iff.1 hb5)] at h
          refine zT [(60, .int .i64 v0_4), (61, .fn (.func 114) [] [.bp 10 0])] [(10, .box 23 [.own 23000]), (23000, .arr 55 Y1 b2)] gt ?_
          obtain ⟨v0_6, hv8, h⟩ := Option.bind_eq_some_iff.1 h
          refine zC [] [(1000, 10), (1001, 23000)] (hc_history_told_18 v0_4 b2 hb5 hv8) [(62, .tup [.cv (.slice none 0 0), .int .i64 v0_4])] [] ?_
          refine zB [(8, .cv (.slice none 0 0)), (9, .int .i64 v0_4)] [] ?_
          refine AW.ret ?_
          obtain rfl := Option.some.inj h
          exact zR [] [2000] []
      ·
        refine zT [(10, .bp 10 0), (54, .sl Y1 h0), (56, .bool false)] [(10, .box 23 [.own 23000]), (23000, .arr 55 Y1 b2)] gt ?_
        refine zS 3 [(10, .bp 10 0), (54, .sl Y1 h0), (59, .bool false)] [(10, .box 23 [.own 23000]), (23000, .arr 55 Y1 b2)] ?_
        obtain ⟨v0_7, hv9, h⟩ := Option.bind_eq_some_iff.1 h
        refine zC [] [] (hc_history_check h0 false hv9) [(10, .bp 10 0), (60, .int .i64 v0_7)] [(10, .box 23 [.own 23000]), (23000, .arr 55 Y1 b2)] ?_
        refine zS 1 [(60, .int .i64 v0_7), (61, .fn (.func 114) [] [.bp 10 0])] [(10, .box 23 [.own 23000]), (23000, .arr 55 Y1 b2)] ?_
        rcases Bool.eq_false_or_eq_true (decide (v0_7 = 0)) with hb10 | hb10
        · rw [if_pos hb10] at h
          have hz11 : v0_7 = 0 := by simpa using hb10
          refine zT [(60, .int .i64 0), (61, .fn (.func 114) [] [.bp 10 0])] [(10, .box 23 [.own 23000]), (23000, .arr 55 Y1 b2)] gt ?_
          obtain ⟨v0_8, hv12, h⟩ := Option.bind_eq_some_iff.1 h
          refine zC [] [(1000, 10), (1001, 23000)] (hc_history_told_17 b2 hv12) [(62, .tup [.own 23000, .int .i64 0])] [(23000, .arr 55 Y1 b2)] ?_
          refine zB [(8, .own 23000), (9, .int .i64 0)] [(23000, .arr 55 Y1 b2)] ?_
          refine AW.ret ?_
          obtain rfl := Option.some.inj h
          exact zR [] [] [(2000, 23000)]
        · rw [if_neg (Bool.eq_false_iff.1 hb10)] at h
          refine zT [(60, .int .i64 v0_7), (61, .fn (.func 114) [] [.bp 10 0])] [(10, .box 23 [.own 23000]), (23000, .arr 55 Y1 b2)] gt ?_
          obtain ⟨v0_9, hv13, h⟩ := Option.bind_eq_some_iff.1 h
          refine zC [] [(1000, 10), (1001, 23000)] (hc_history_told_18 v0_7 b2 hb10 hv13) [(62, .tup [.cv (.slice none 0 0), .int .i64 v0_7])] [] ?_
          refine zB [(8, .cv (.slice none 0 0)), (9, .int .i64 v0_7)] [] ?_
          refine AW.ret ?_
          obtain rfl := Option.some.inj h
          exact zR [] [2000] []
    · refine AW.seq ?_
      refine zo ?_
      refine zB [(0, .sl Y1 h0), (1, .int .i64 call), (2, .int .i64 from0), (3, .int .i64 to0), (10, .bp 10 0), (11, .bool b1), (43, .bool b1)] [(10, .box 23 [.own 23000]), (23000, .arr 55 Y1 v0)] ?_
      refine zQ h (fun hb14 h => ?_) (fun hb14 h => ?_)
      ·
        refine AW.draw tab_ok mixed_ok [(8, [23000]), (11, [23000])] [(2, [10, 23000, 1000023000]), (3, []), (5, []), (100008, []), (100011, [])] (by decide) (by kernel_rfl) ?_
        refine adops_cut 6 (fun K' hK15 => ?_)
        try dsimp only [List.drop_succ_cons, List.drop_zero, List.take_succ_cons, List.take_zero]
        simp only [go_sem, hb14]
        repeat (with_reducible refine And.intro (by first | assumption | rfl | omega | trivial | (unfold maxLen; omega)) ?_)
        refine hK15 _ ?_
        obtain ⟨c17, h⟩ := ck_some.1 h
        obtain ⟨c18, h⟩ := ck_some.1 h
        obtain ⟨c19, h⟩ := ck_some.1 h
        obtain ⟨c20, h⟩ := ck_some.1 h
        refine adops_cut 6 (fun K' hK16 => ?_)
        try dsimp only [List.drop_succ_cons, List.drop_zero, List.take_succ_cons, List.take_zero]
        simp only [go_sem, hb14]
        repeat (with_reducible refine And.intro (by first | assumption | rfl | omega | trivial | (unfold maxLen; omega)) ?_)
        refine hK16 _ ?_
        refine adops_nil ?_
        refine athen_n ?_
        refine zV [(0, .sl Y1 h0), (10, .bp 10 0), (11, .bool b1)] [(10, .box 23 [.own 23000]), (23000, .arr 55 Y1 ((v0.set call.toNat ((v0.getD call.toNat (0, 0, 0, 0, 0, 0)).1, (v0.getD call.toNat (0, 0, 0, 0, 0, 0)).2.1, (v0.getD call.toNat (0, 0, 0, 0, 0, 0)).2.2.1, (v0.getD call.toNat (0, 0, 0, 0, 0, 0)).2.2.2.1, from0, (v0.getD call.toNat (0, 0, 0, 0, 0, 0)).2.2.2.2.2)).set call.toNat (((v0.set call.toNat ((v0.getD call.toNat (0, 0, 0, 0, 0, 0)).1, (v0.getD call.toNat (0, 0, 0, 0, 0, 0)).2.1, (v0.getD call.toNat (0, 0, 0, 0, 0, 0)).2.2.1, (v0.getD call.toNat (0, 0, 0, 0, 0, 0)).2.2.2.1, from0, (v0.getD call.toNat (0, 0, 0, 0, 0, 0)).2.2.2.2.2)).getD call.toNat (0, 0, 0, 0, 0, 0)).1, ((v0.set call.toNat ((v0.getD call.toNat (0, 0, 0, 0, 0, 0)).1, (v0.getD call.toNat (0, 0, 0, 0, 0, 0)).2.1, (v0.getD call.toNat (0, 0, 0, 0, 0, 0)).2.2.1, (v0.getD call.toNat (0, 0, 0, 0, 0, 0)).2.2.2.1, from0, (v0.getD call.toNat (0, 0, 0, 0, 0, 0)).2.2.2.2.2)).getD call.toNat (0, 0, 0, 0, 0, 0)).2.1, ((v0.set call.toNat ((v0.getD call.toNat (0, 0, 0, 0, 0, 0)).1, (v0.getD call.toNat (0, 0, 0, 0, 0, 0)).2.1, (v0.getD call.toNat (0, 0, 0, 0, 0, 0)).2.2.1, (v0.getD call.toNat (0, 0, 0, 0, 0, 0)).2.2.2.1, from0, (v0.getD call.toNat (0, 0, 0, 0, 0, 0)).2.2.2.2.2)).getD call.toNat (0, 0, 0, 0, 0, 0)).2.2.1, ((v0.set call.toNat ((v0.getD call.toNat (0, 0, 0, 0, 0, 0)).1, (v0.getD call.toNat (0, 0, 0, 0, 0, 0)).2.1, (v0.getD call.toNat (0, 0, 0, 0, 0, 0)).2.2.1, (v0.getD call.toNat (0, 0, 0, 0, 0, 0)).2.2.2.1, from0, (v0.getD call.toNat (0, 0, 0, 0, 0, 0)).2.2.2.2.2)).getD call.toNat (0, 0, 0, 0, 0, 0)).2.2.2.1, ((v0.set call.toNat ((v0.getD call.toNat (0, 0, 0, 0, 0, 0)).1, (v0.getD call.toNat (0, 0, 0, 0, 0, 0)).2.1, (v0.getD call.toNat (0, 0, 0, 0, 0, 0)).2.2.1, (v0.getD call.toNat (0, 0, 0, 0, 0, 0)).2.2.2.1, from0, (v0.getD call.toNat (0, 0, 0, 0, 0, 0)).2.2.2.2.2)).getD call.toNat (0, 0, 0, 0, 0, 0)).2.2.2.2.1, to0)))] gt ?_
        exact AW.weaken (zL [] [] []) (hk_history_Longer_k2 _ h)
      ·
        refine zk ?_
        exact AW.weaken (zL [] [] []) (hk_history_Longer_k2 _ h)
  · refine zo ?_
    refine zS 2 [(0, .sl Y1 h0), (1, .int .i64 call), (2, .int .i64 from0), (3, .int .i64 to0), (10, .bp 10 0), (14, .sl Y1 h0), (15, .int .i64 call)] [(10, .box 23 [.own 23000]), (23000, .arr 55 Y1 v0)] ?_
    obtain ⟨v0_2, hv21, h⟩ := Option.bind_eq_some_iff.1 h
    refine zC [] [] (hc_history_isIndex h0 call hv21) [(0, .sl Y1 h0), (1, .int .i64 call), (2, .int .i64 from0), (3, .int .i64 to0), (10, .bp 10 0), (16, .bool v0_2)] [(10, .box 23 [.own 23000]), (23000, .arr 55 Y1 v0)] ?_
    refine zS 1 [(0, .sl Y1 h0), (1, .int .i64 call), (2, .int .i64 from0), (3, .int .i64 to0), (10, .bp 10 0), (17, .bool v0_2)] [(10, .box 23 [.own 23000]), (23000, .arr 55 Y1 v0)] ?_
    rcases zI h with ⟨hb22, h⟩ | ⟨hb22, h⟩
    ·
      refine zT [(0, .sl Y1 h0), (1, .int .i64 call), (2, .int .i64 from0), (3, .int .i64 to0), (10, .bp 10 0), (17, .bool true)] [(10, .box 23 [.own 23000]), (23000, .arr 55 Y1 v0)] gt ?_
      obtain ⟨c23, h⟩ := ck_some.1 h
      obtain ⟨c24, h⟩ := ck_some.1 h
      refine zS 8 [(0, .sl Y1 h0), (1, .int .i64 call), (2, .int .i64 from0), (3, .int .i64 to0), (10, .bp 10 0), (25, .bool (!(decide ((h0.getD call.toNat (0, 0, 0, 0, 0, 0)).2.2.2.2.2 = 0))))] [(10, .box 23 [.own 23000]), (23000, .arr 55 Y1 v0)] ?_
      rcases zI h with ⟨hb25, h⟩ | ⟨hb25, h⟩
      ·
        refine zT [(0, .sl Y1 h0), (1, .int .i64 call), (2, .int .i64 from0), (3, .int .i64 to0), (10, .bp 10 0), (25, .bool true)] [(10, .box 23 [.own 23000]), (23000, .arr 55 Y1 v0)] gt ?_
        obtain ⟨c26, h⟩ := ck_some.1 h
        obtain ⟨c27, h⟩ := ck_some.1 h
        refine zS 9 [(0, .sl Y1 h0), (1, .int .i64 call), (2, .int .i64 from0), (3, .int .i64 to0), (10, .bp 10 0), (34, .bool (decide (from0 ≤ (h0.getD call.toNat (0, 0, 0, 0, 0, 0)).2.2.2.2.1)))] [(10, .box 23 [.own 23000]), (23000, .arr 55 Y1 v0)] ?_
        rcases zI h with ⟨hb28, h⟩ | ⟨hb28, h⟩
        ·
          refine zT [(0, .sl Y1 h0), (1, .int .i64 call), (2, .int .i64 from0), (3, .int .i64 to0), (10, .bp 10 0), (34, .bool true)] [(10, .box 23 [.own 23000]), (23000, .arr 55 Y1 v0)] gt ?_
          obtain ⟨c29, h⟩ := ck_some.1 h
          obtain ⟨c30, h⟩ := ck_some.1 h
          refine zB [(0, .sl Y1 h0), (1, .int .i64 call), (2, .int .i64 from0), (3, .int .i64 to0), (10, .bp 10 0), (11, .bool (decide ((h0.getD call.toNat (0, 0, 0, 0, 0, 0)).2.2.2.2.2 ≤ to0)))] [(10, .box 23 [.own 23000]), (23000, .arr 55 Y1 v0)] ?_
          exact AW.weaken (zL [] [] []) (hk_history_Longer_k1 _ h)
        ·
          refine zT [(0, .sl Y1 h0), (1, .int .i64 call), (2, .int .i64 from0), (3, .int .i64 to0), (10, .bp 10 0), (34, .bool false)] [(10, .box 23 [.own 23000]), (23000, .arr 55 Y1 v0)] gt ?_
          refine zS 4 [(0, .sl Y1 h0), (1, .int .i64 call), (2, .int .i64 from0), (3, .int .i64 to0), (10, .bp 10 0), (34, .bool false), (35, .cv (undef)), (38, .cv (undef))] [(10, .box 23 [.own 23000]), (23000, .arr 55 Y1 v0)] ?_
          refine zB [(0, .sl Y1 h0), (1, .int .i64 call), (2, .int .i64 from0), (3, .int .i64 to0), (10, .bp 10 0), (11, .bool false)] [(10, .box 23 [.own 23000]), (23000, .arr 55 Y1 v0)] ?_
          exact AW.weaken (zL [] [] []) (hk_history_Longer_k1 _ h)
      ·
        refine zT [(0, .sl Y1 h0), (1, .int .i64 call), (2, .int .i64 from0), (3, .int .i64 to0), (10, .bp 10 0), (25, .bool false)] [(10, .box 23 [.own 23000]), (23000, .arr 55 Y1 v0)] gt ?_
        refine zS 4 [(0, .sl Y1 h0), (1, .int .i64 call), (2, .int .i64 from0), (3, .int .i64 to0), (10, .bp 10 0), (25, .bool false), (26, .cv (undef)), (29, .cv (undef))] [(10, .box 23 [.own 23000]), (23000, .arr 55 Y1 v0)] ?_
        refine zS 6 [(0, .sl Y1 h0), (1, .int .i64 call), (2, .int .i64 from0), (3, .int .i64 to0), (10, .bp 10 0), (34, .bool false), (35, .cv (undef))] [(10, .box 23 [.own 23000]), (23000, .arr 55 Y1 v0)] ?_
        refine zS 4 [(0, .sl Y1 h0), (1, .int .i64 call), (2, .int .i64 from0), (3, .int .i64 to0), (10, .bp 10 0), (34, .bool false), (35, .cv (undef)), (39, .cv (undef))] [(10, .box 23 [.own 23000]), (23000, .arr 55 Y1 v0)] ?_
        refine zB [(0, .sl Y1 h0), (1, .int .i64 call), (2, .int .i64 from0), (3, .int .i64 to0), (10, .bp 10 0), (11, .bool false)] [(10, .box 23 [.own 23000]), (23000, .arr 55 Y1 v0)] ?_
        exact AW.weaken (zL [] [] []) (hk_history_Longer_k1 _ h)
    ·
      refine zT [(0, .sl Y1 h0), (1, .int .i64 call), (2, .int .i64 from0), (3, .int .i64 to0), (10, .bp 10 0), (17, .bool false)] [(10, .box 23 [.own 23000]), (23000, .arr 55 Y1 v0)] gt ?_
      refine zS 4 [(0, .sl Y1 h0), (1, .int .i64 call), (2, .int .i64 from0), (3, .int .i64 to0), (10, .bp 10 0), (17, .bool false), (21, .cv (undef))] [(10, .box 23 [.own 23000]), (23000, .arr 55 Y1 v0)] ?_
      refine zS 6 [(0, .sl Y1 h0), (1, .int .i64 call), (2, .int .i64 from0), (3, .int .i64 to0), (10, .bp 10 0), (25, .bool false), (26, .cv (undef)), (27, .cv (undef))] [(10, .box 23 [.own 23000]), (23000, .arr 55 Y1 v0)] ?_
      refine zS 4 [(0, .sl Y1 h0), (1, .int .i64 call), (2, .int .i64 from0), (3, .int .i64 to0), (10, .bp 10 0), (25, .bool false), (26, .cv (undef)), (31, .cv (undef))] [(10, .box 23 [.own 23000]), (23000, .arr 55 Y1 v0)] ?_
      refine zS 6 [(0, .sl Y1 h0), (1, .int .i64 call), (2, .int .i64 from0), (3, .int .i64 to0), (10, .bp 10 0), (34, .bool false), (35, .cv (undef)), (36, .cv (undef)), (37, .cv (undef))] [(10, .box 23 [.own 23000]), (23000, .arr 55 Y1 v0)] ?_
      refine zS 4 [(0, .sl Y1 h0), (1, .int .i64 call), (2, .int .i64 from0), (3, .int .i64 to0), (10, .bp 10 0), (34, .bool false), (41, .cv (undef))] [(10, .box 23 [.own 23000]), (23000, .arr 55 Y1 v0)] ?_
      refine zB [(0, .sl Y1 h0), (1, .int .i64 call), (2, .int .i64 from0), (3, .int .i64 to0), (10, .bp 10 0), (11, .bool false)] [(10, .box 23 [.own 23000]), (23000, .arr 55 Y1 v0)] ?_
      exact AW.weaken (zL [] [] []) (hk_history_Longer_k1 _ h)

theorem hc_history_Linear_1 (a0 : List (Int × Int × (List (List Int)) × (List (List Int)))) (a1 : List (Int × Int × Int × Int × Int × Int)) {r : Bool} (h : history_Linear_1 a0 a1 = some r) : HC Try.prog 93 [(1000, .box 22 [.sl Y0 a0]), (1001, .box 23 [.sl Y1 a1])] [.bp 1000 0, .bp 1001 0] [(1000, .box 22 [.sl Y0 a0]), (1001, .box 23 [.sl Y1 a1])] (.bool r) := by
  unfold history_Linear_1 at h
  refine zH Try.func93 [.tmp 2] 9 ?_
  refine zo ?_
  refine zB [(0, .bp 1000 0), (1, .bp 1001 0)] [(1000, .box 22 [.sl Y0 a0]), (1001, .box 23 [.sl Y1 a1])] ?_
  refine zo ?_
  refine zS 2 [(3, .sl Y0 a0), (4, .sl Y1 a1)] [(1000, .box 22 [.sl Y0 a0]), (1001, .box 23 [.sl Y1 a1])] ?_
  obtain ⟨v0, hv1, h⟩ := Option.bind_eq_some_iff.1 h
  refine zC [] [] (hc_history_newSearch a0 a1 hv1) [(5, .agg [.sl Y0 a0, .sl Y1 a1, .fn (.func 77) [] [], .own 15000])] [(1000, .box 22 [.sl Y0 a0]), (1001, .box 23 [.sl Y1 a1]), (15000, .map true false (.pair (.pair (.int .i64) (.int .i64)) (.int .u64)) (.int .i64) [])] ?_
  refine zS 1 [(5, .agg [.sl Y0 a0, .sl Y1 a1, .fn (.func 77) [] [], .own 15000]), (6, .agg [.int .i64 0, .int .i64 0, .int .u64 0])] [(1000, .box 22 [.sl Y0 a0]), (1001, .box 23 [.sl Y1 a1]), (15000, .map true false (.pair (.pair (.int .i64) (.int .i64)) (.int .u64)) (.int .i64) [])] ?_
  obtain ⟨v0_2, hv2, h⟩ := Option.bind_eq_some_iff.1 h
  refine zC [] [(1000, 15000)] (hc_history_search_count fuel a0 a1 ((0, 0), 0) [] hv2) [(7, .int .i64 v0_2.1)] [(1000, .box 22 [.sl Y0 a0]), (1001, .box 23 [.sl Y1 a1])] ?_
  refine zB [(2, .bool (decide (0 < v0_2.1)))] [(1000, .box 22 [.sl Y0 a0]), (1001, .box 23 [.sl Y1 a1])] ?_
  refine AW.ret ?_
  obtain rfl := Option.some.inj h
  exact zR [] [] []

theorem hc_history_told_21 (c0 : List (Int × Int × (List (List Int)) × (List (List Int)))) (c1 : List (Int × Int × Int × Int × Int × Int)) {r : Bool} (h : history_told_21 c0 c1 = some r) : HC Try.prog 58 [(1000, .box 22 [.sl Y0 c0]), (1001, .box 23 [.sl Y1 c1])] [.int .i64 0, .fn (.func 93) [] [.bp 1000 0, .bp 1001 0]] [(1000, .box 22 [.sl Y0 c0]), (1001, .box 23 [.sl Y1 c1])] (.tup [.bool r, .int .i64 0]) := by
  unfold history_told_21 at h
  refine zH Try.func58 [.tmp 4, .tmp 5] 13 ?_
  refine zo ?_
  refine zB [(0, .int .i64 0), (1, .fn (.func 93) [] [.bp 1000 0, .bp 1001 0])] [(1000, .box 22 [.sl Y0 c0]), (1001, .box 23 [.sl Y1 c1])] ?_
  refine AW.seq ?_
  refine zo ?_
  refine zB [(0, .int .i64 0), (1, .fn (.func 93) [] [.bp 1000 0, .bp 1001 0]), (8, .bool false)] [(1000, .box 22 [.sl Y0 c0]), (1001, .box 23 [.sl Y1 c1])] ?_
  refine AW.cond (b := false) rfl (fun hb1 => by cases hb1) (fun _ => ?_)
  refine zk ?_
  refine zo ?_
  refine zS 1 [(11, .fn (.func 93) [] [.bp 1000 0, .bp 1001 0])] [(1000, .box 22 [.sl Y0 c0]), (1001, .box 23 [.sl Y1 c1])] ?_
  obtain ⟨v0, hv2, h⟩ := Option.bind_eq_some_iff.1 h
  refine zC [] [(1000, 1000), (1001, 1001)] (hc_history_Linear_1 c0 c1 hv2) [(12, .bool v0)] [(1000, .box 22 [.sl Y0 c0]), (1001, .box 23 [.sl Y1 c1])] ?_
  refine zB [(4, .bool v0), (5, .int .i64 0)] [(1000, .box 22 [.sl Y0 c0]), (1001, .box 23 [.sl Y1 c1])] ?_
  refine AW.ret ?_
  obtain rfl := Option.some.inj h
  exact zR [] [] []

end Go.Proofs.Ytlfpagicagmjgaa
