/-
  Made by wip/tool/dc.py out of the print of the program: contracts.
-/
import Derived.Test.YtlfpagicagmjgaaHp
import Derived.Test.YtlfpagicagmjgaaShh
import Derived.Test.YtlfpagicagmjgaaAvd
import Derived.Test.YtlfpagicagmjgaaKic2
import Derived.Test.YtlfpagicagmjgaaKic3
import Derived.Test.YtlfpagicagmjgaaKic4
namespace Go.Proofs.Ytlfpagicagmjgaa
open Go.RowKit

set_option linter.unusedSimpArgs false
set_option linter.unusedVariables false
set_option linter.constructorNameAsVariable false

set_option maxRecDepth 100000
set_option maxHeartbeats 2000000

theorem hc_linealref01_isTable (s : Int × Int × (List (List Int)) × (List (List Int))) (l : List (List Int)) (limit : Int) {r : Bool} (h : linealref01_isTable s l limit = some r) : HC Try.prog 125 [] [.agg [.int .i64 s.1, .int .i64 s.2.1, .sl (.sl (.int .i64)) s.2.2.1, .sl (.sl (.int .i64)) s.2.2.2], .sl (.sl (.int .i64)) l, .int .i64 limit] [] (.bool r) := by
  unfold linealref01_isTable at h
  refine zH Try.func125 [.tmp 6] 42 ?_
  refine zo ?_
  refine zB [(1, .sl (.sl (.int .i64)) l), (2, .int .i64 limit), (3, .bp 3 0)] [(3, .box 64 [.int .i64 s.1, .int .i64 s.2.1, .sl (.sl (.int .i64)) s.2.2.1, .sl (.sl (.int .i64)) s.2.2.2])] ?_
  refine AW.seq ?_
  refine zo ?_
  refine zB [(1, .sl (.sl (.int .i64)) l), (2, .int .i64 limit), (3, .bp 3 0), (15, .bool (!(decide ((l.length : Int) = s.1))))] [(3, .box 64 [.int .i64 s.1, .int .i64 s.2.1, .sl (.sl (.int .i64)) s.2.2.1, .sl (.sl (.int .i64)) s.2.2.2])] ?_
  refine zQ h (fun hb1 h => ?_) (fun hb1 h => ?_)
  ·
    refine zo ?_
    refine zB [(6, .bool false)] [] ?_
    refine zr ?_
    obtain rfl := Option.some.inj h
    exact zR [] [] []
  ·
    refine zk ?_
    refine AW.have1 (fun _ : Unit => linealref01_isTable_k1 = some r) (fun _ => ⟨fr [], hpGet [], gt⟩) (fun _ h => ?_) (fun hk_linealref01_isTable_k1 => ?_)
    · unfold linealref01_isTable_k1 at h
      refine zo ?_
      refine zB [(6, .bool true)] [] ?_
      refine AW.ret ?_
      obtain rfl := Option.some.inj h
      exact zR [] [] []
    · refine AW.seq ?_
      refine zo ?_
      refine zB [(2, .int .i64 limit), (3, .bp 3 0), (16, .sl (.sl (.int .i64)) l), (17, .int .i64 (l.length : Int)), (18, .int .i64 0)] [(3, .box 64 [.int .i64 s.1, .int .i64 s.2.1, .sl (.sl (.int .i64)) s.2.2.1, .sl (.sl (.int .i64)) s.2.2.2])] ?_
      refine AW.block ?_
      obtain ⟨rv6, hw2, ho3⟩ := Option.bind_eq_some_iff.1 h
      refine AW.loopO (linealref01_isTable_b1 s l limit) (fun st1 => ⟨fr [(2, .int .i64 limit), (3, .bp 3 0), (16, .sl (.sl (.int .i64)) l), (17, .int .i64 (l.length : Int)), (18, .int .i64 st1)], hpGet [(3, .box 64 [.int .i64 s.1, .int .i64 s.2.1, .sl (.sl (.int .i64)) s.2.2.1, .sl (.sl (.int .i64)) s.2.2.2])], gt⟩) 0 hw2 (zL [] [] []) ?_
      intro st1 x5 h hd4
      unfold linealref01_isTable_b1 at h
      refine zo ?_
      refine zB [(2, .int .i64 limit), (3, .bp 3 0), (16, .sl (.sl (.int .i64)) l), (17, .int .i64 (l.length : Int)), (18, .int .i64 st1), (19, .bool (decide (st1 < (l.length : Int))))] [(3, .box 64 [.int .i64 s.1, .int .i64 s.2.1, .sl (.sl (.int .i64)) s.2.2.1, .sl (.sl (.int .i64)) s.2.2.2])] ?_
      refine AW.seq ?_
      refine zQ h (fun hb7 h => ?_) (fun hb7 h => ?_)
      ·
        refine zk ?_
        refine AW.have1 (fun _ : Unit => linealref01_isTable_k2 st1 = some x5) (fun _ => ⟨fr [(2, .int .i64 limit), (3, .bp 3 0), (16, .sl (.sl (.int .i64)) l), (17, .int .i64 (l.length : Int)), (18, .int .i64 st1)], hpGet [(3, .box 64 [.int .i64 s.1, .int .i64 s.2.1, .sl (.sl (.int .i64)) s.2.2.1, .sl (.sl (.int .i64)) s.2.2.2])], gt⟩) (fun _ h => ?_) (fun hk_linealref01_isTable_k2 => ?_)
        · unfold linealref01_isTable_k2 at h
          refine AW.ops ?_
          obtain ⟨c8, h⟩ := ck_some.1 h
          refine zA [(2, .int .i64 limit), (3, .bp 3 0), (16, .sl (.sl (.int .i64)) l), (17, .int .i64 (l.length : Int)), (18, .int .i64 (st1 + 1))] [(3, .box 64 [.int .i64 s.1, .int .i64 s.2.1, .sl (.sl (.int .i64)) s.2.2.1, .sl (.sl (.int .i64)) s.2.2.2])] ?_
          obtain rfl := Option.some.inj h
          exact ⟨_, rfl, zL [] [] []⟩
        · refine AW.seq ?_
          refine AW.block ?_
          refine zo ?_
          obtain ⟨c9, h⟩ := ck_some.1 h
          obtain ⟨c10, h⟩ := ck_some.1 h
          refine zB [(2, .int .i64 limit), (3, .bp 3 0), (8, .sl (.int .i64) (l.getD st1.toNat [])), (16, .sl (.sl (.int .i64)) l), (17, .int .i64 (l.length : Int)), (18, .int .i64 st1)] [(3, .box 64 [.int .i64 s.1, .int .i64 s.2.1, .sl (.sl (.int .i64)) s.2.2.1, .sl (.sl (.int .i64)) s.2.2.2])] ?_
          refine AW.seq ?_
          refine zo ?_
          refine zB [(2, .int .i64 limit), (3, .bp 3 0), (8, .sl (.int .i64) (l.getD st1.toNat [])), (16, .sl (.sl (.int .i64)) l), (17, .int .i64 (l.length : Int)), (18, .int .i64 st1), (26, .bool (!(decide (((l.getD st1.toNat []).length : Int) = s.2.1))))] [(3, .box 64 [.int .i64 s.1, .int .i64 s.2.1, .sl (.sl (.int .i64)) s.2.2.1, .sl (.sl (.int .i64)) s.2.2.2])] ?_
          refine zQ h (fun hb11 h => ?_) (fun hb11 h => ?_)
          ·
            refine zo ?_
            refine zB [(6, .bool false)] [] ?_
            refine zr ?_
            refine ablock_r ?_
            refine athen_r ?_
            obtain rfl := Option.some.inj h
            rw [← hd4 _ rfl] at ho3
            have h := ho3
            try simp only at h
            refine athen_r ?_
            refine ablock_r ?_
            refine athen_r ?_
            obtain rfl := Option.some.inj h
            exact zR [] [] []
          ·
            refine zk ?_
            refine zo ?_
            refine zB [(2, .int .i64 limit), (3, .bp 3 0), (16, .sl (.sl (.int .i64)) l), (17, .int .i64 (l.length : Int)), (18, .int .i64 st1), (27, .sl (.int .i64) (l.getD st1.toNat [])), (28, .int .i64 ((l.getD st1.toNat []).length : Int)), (29, .int .i64 0)] [(3, .box 64 [.int .i64 s.1, .int .i64 s.2.1, .sl (.sl (.int .i64)) s.2.2.1, .sl (.sl (.int .i64)) s.2.2.2])] ?_
            refine AW.block ?_
            obtain ⟨rv16, hw12, ho13⟩ := Option.bind_eq_some_iff.1 h
            refine AW.loopO (linealref01_isTable_b2 l limit st1) (fun st2 => ⟨fr [(2, .int .i64 limit), (3, .bp 3 0), (16, .sl (.sl (.int .i64)) l), (17, .int .i64 (l.length : Int)), (18, .int .i64 st1), (27, .sl (.int .i64) (l.getD st1.toNat [])), (28, .int .i64 ((l.getD st1.toNat []).length : Int)), (29, .int .i64 st2)], hpGet [(3, .box 64 [.int .i64 s.1, .int .i64 s.2.1, .sl (.sl (.int .i64)) s.2.2.1, .sl (.sl (.int .i64)) s.2.2.2])], gt⟩) 0 hw12 (zL [] [] []) ?_
            intro st2 x15 h hd14
            unfold linealref01_isTable_b2 at h
            refine zo ?_
            refine zB [(2, .int .i64 limit), (3, .bp 3 0), (16, .sl (.sl (.int .i64)) l), (17, .int .i64 (l.length : Int)), (18, .int .i64 st1), (27, .sl (.int .i64) (l.getD st1.toNat [])), (28, .int .i64 ((l.getD st1.toNat []).length : Int)), (29, .int .i64 st2), (30, .bool (decide (st2 < ((l.getD st1.toNat []).length : Int))))] [(3, .box 64 [.int .i64 s.1, .int .i64 s.2.1, .sl (.sl (.int .i64)) s.2.2.1, .sl (.sl (.int .i64)) s.2.2.2])] ?_
            refine AW.seq ?_
            refine zQ h (fun hb17 h => ?_) (fun hb17 h => ?_)
            ·
              refine zk ?_
              refine AW.seq ?_
              refine AW.block ?_
              refine zo ?_
              obtain ⟨c18, h⟩ := ck_some.1 h
              obtain ⟨c19, h⟩ := ck_some.1 h
              refine zB [(2, .int .i64 limit), (3, .bp 3 0), (10, .int .i64 ((l.getD st1.toNat []).getD st2.toNat 0)), (16, .sl (.sl (.int .i64)) l), (17, .int .i64 (l.length : Int)), (18, .int .i64 st1), (27, .sl (.int .i64) (l.getD st1.toNat [])), (28, .int .i64 ((l.getD st1.toNat []).length : Int)), (29, .int .i64 st2)] [(3, .box 64 [.int .i64 s.1, .int .i64 s.2.1, .sl (.sl (.int .i64)) s.2.2.1, .sl (.sl (.int .i64)) s.2.2.2])] ?_
              refine zo ?_
              refine zS 3 [(2, .int .i64 limit), (3, .bp 3 0), (10, .int .i64 ((l.getD st1.toNat []).getD st2.toNat 0)), (16, .sl (.sl (.int .i64)) l), (17, .int .i64 (l.length : Int)), (18, .int .i64 st1), (27, .sl (.int .i64) (l.getD st1.toNat [])), (28, .int .i64 ((l.getD st1.toNat []).length : Int)), (29, .int .i64 st2), (35, .bool (decide (((l.getD st1.toNat []).getD st2.toNat 0) < 0)))] [(3, .box 64 [.int .i64 s.1, .int .i64 s.2.1, .sl (.sl (.int .i64)) s.2.2.1, .sl (.sl (.int .i64)) s.2.2.2])] ?_
              rcases zI h with ⟨hb20, h⟩ | ⟨hb20, h⟩
              ·
                refine zT [(2, .int .i64 limit), (3, .bp 3 0), (10, .int .i64 ((l.getD st1.toNat []).getD st2.toNat 0)), (16, .sl (.sl (.int .i64)) l), (17, .int .i64 (l.length : Int)), (18, .int .i64 st1), (27, .sl (.int .i64) (l.getD st1.toNat [])), (28, .int .i64 ((l.getD st1.toNat []).length : Int)), (29, .int .i64 st2), (35, .bool true)] [(3, .box 64 [.int .i64 s.1, .int .i64 s.2.1, .sl (.sl (.int .i64)) s.2.2.1, .sl (.sl (.int .i64)) s.2.2.2])] gt ?_
                refine zB [(2, .int .i64 limit), (3, .bp 3 0), (16, .sl (.sl (.int .i64)) l), (17, .int .i64 (l.length : Int)), (18, .int .i64 st1), (27, .sl (.int .i64) (l.getD st1.toNat [])), (28, .int .i64 ((l.getD st1.toNat []).length : Int)), (29, .int .i64 st2), (39, .bool true)] [(3, .box 64 [.int .i64 s.1, .int .i64 s.2.1, .sl (.sl (.int .i64)) s.2.2.1, .sl (.sl (.int .i64)) s.2.2.2])] ?_
                refine AW.cond (b := true) rfl (fun _ => ?_) (fun hb21 => by cases hb21)
                refine zo ?_
                refine zB [(6, .bool false)] [] ?_
                refine AW.ret ?_
                refine ablock_r ?_
                refine athen_r ?_
                obtain rfl := Option.some.inj h
                rw [← hd14 _ rfl] at ho13
                have h := ho13
                try simp only at h
                refine athen_r ?_
                refine ablock_r ?_
                refine ablock_r ?_
                refine athen_r ?_
                obtain rfl := Option.some.inj h
                rw [← hd4 _ rfl] at ho3
                have h := ho3
                try simp only at h
                refine athen_r ?_
                refine ablock_r ?_
                refine athen_r ?_
                obtain rfl := Option.some.inj h
                exact zR [] [] []
              ·
                refine zT [(2, .int .i64 limit), (3, .bp 3 0), (10, .int .i64 ((l.getD st1.toNat []).getD st2.toNat 0)), (16, .sl (.sl (.int .i64)) l), (17, .int .i64 (l.length : Int)), (18, .int .i64 st1), (27, .sl (.int .i64) (l.getD st1.toNat [])), (28, .int .i64 ((l.getD st1.toNat []).length : Int)), (29, .int .i64 st2), (35, .bool false)] [(3, .box 64 [.int .i64 s.1, .int .i64 s.2.1, .sl (.sl (.int .i64)) s.2.2.1, .sl (.sl (.int .i64)) s.2.2.2])] gt ?_
                refine zB [(2, .int .i64 limit), (3, .bp 3 0), (16, .sl (.sl (.int .i64)) l), (17, .int .i64 (l.length : Int)), (18, .int .i64 st1), (27, .sl (.int .i64) (l.getD st1.toNat [])), (28, .int .i64 ((l.getD st1.toNat []).length : Int)), (29, .int .i64 st2), (39, .bool (decide (limit ≤ ((l.getD st1.toNat []).getD st2.toNat 0))))] [(3, .box 64 [.int .i64 s.1, .int .i64 s.2.1, .sl (.sl (.int .i64)) s.2.2.1, .sl (.sl (.int .i64)) s.2.2.2])] ?_
                refine zQ h (fun hb22 h => ?_) (fun hb22 h => ?_)
                ·
                  refine zo ?_
                  refine zB [(6, .bool false)] [] ?_
                  refine AW.ret ?_
                  refine ablock_r ?_
                  refine athen_r ?_
                  obtain rfl := Option.some.inj h
                  rw [← hd14 _ rfl] at ho13
                  have h := ho13
                  try simp only at h
                  refine athen_r ?_
                  refine ablock_r ?_
                  refine ablock_r ?_
                  refine athen_r ?_
                  obtain rfl := Option.some.inj h
                  rw [← hd4 _ rfl] at ho3
                  have h := ho3
                  try simp only at h
                  refine athen_r ?_
                  refine ablock_r ?_
                  refine athen_r ?_
                  obtain rfl := Option.some.inj h
                  exact zR [] [] []
                ·
                  refine zm ?_
                  refine athen_n ?_
                  refine AW.ops ?_
                  obtain ⟨c23, h⟩ := ck_some.1 h
                  refine zA [(2, .int .i64 limit), (3, .bp 3 0), (16, .sl (.sl (.int .i64)) l), (17, .int .i64 (l.length : Int)), (18, .int .i64 st1), (27, .sl (.int .i64) (l.getD st1.toNat [])), (28, .int .i64 ((l.getD st1.toNat []).length : Int)), (29, .int .i64 (st2 + 1))] [(3, .box 64 [.int .i64 s.1, .int .i64 s.2.1, .sl (.sl (.int .i64)) s.2.2.1, .sl (.sl (.int .i64)) s.2.2.2])] ?_
                  obtain rfl := Option.some.inj h
                  exact ⟨_, rfl, zL [] [] []⟩
            ·
              refine AW.exit ?_
              refine athen_e ?_
              obtain rfl := Option.some.inj h
              rw [← hd14 _ rfl] at ho13
              have h := ho13
              try simp only at h
              refine athen_e ?_
              refine ablock_s ?_
              refine ablock_n ?_
              refine athen_n ?_
              exact AW.weaken (zL [] [] []) (hk_linealref01_isTable_k2 () h)
      ·
        refine AW.exit ?_
        refine athen_e ?_
        obtain rfl := Option.some.inj h
        rw [← hd4 _ rfl] at ho3
        have h := ho3
        try simp only at h
        refine athen_e ?_
        refine ablock_s ?_
        refine athen_n ?_
        exact AW.weaken (zL [] [] []) (hk_linealref01_isTable_k1 () h)

theorem hc_linealref01_Valid (s : Int × Int × (List (List Int)) × (List (List Int))) {r : Bool} (h : linealref01_Valid s = some r) : HC Try.prog 116 [] [.agg [.int .i64 s.1, .int .i64 s.2.1, .sl (.sl (.int .i64)) s.2.2.1, .sl (.sl (.int .i64)) s.2.2.2]] [] (.bool r) := by
  unfold linealref01_Valid at h
  refine zH Try.func116 [.tmp 2] 35 ?_
  refine zo ?_
  refine zB [(1, .bp 1 0)] [(1, .box 64 [.int .i64 s.1, .int .i64 s.2.1, .sl (.sl (.int .i64)) s.2.2.1, .sl (.sl (.int .i64)) s.2.2.2])] ?_
  refine zo ?_
  refine zS 4 [(1, .bp 1 0), (6, .bool (decide (1 ≤ s.1)))] [(1, .box 64 [.int .i64 s.1, .int .i64 s.2.1, .sl (.sl (.int .i64)) s.2.2.1, .sl (.sl (.int .i64)) s.2.2.2])] ?_
  rcases zI h with ⟨hb1, h⟩ | ⟨hb1, h⟩
  ·
    refine zT [(1, .bp 1 0), (6, .bool true)] [(1, .box 64 [.int .i64 s.1, .int .i64 s.2.1, .sl (.sl (.int .i64)) s.2.2.1, .sl (.sl (.int .i64)) s.2.2.2])] gt ?_
    refine zS 5 [(1, .bp 1 0), (11, .bool (decide (s.1 ≤ 8)))] [(1, .box 64 [.int .i64 s.1, .int .i64 s.2.1, .sl (.sl (.int .i64)) s.2.2.1, .sl (.sl (.int .i64)) s.2.2.2])] ?_
    rcases zI h with ⟨hb2, h⟩ | ⟨hb2, h⟩
    ·
      refine zT [(1, .bp 1 0), (11, .bool true)] [(1, .box 64 [.int .i64 s.1, .int .i64 s.2.1, .sl (.sl (.int .i64)) s.2.2.1, .sl (.sl (.int .i64)) s.2.2.2])] gt ?_
      refine zS 5 [(1, .bp 1 0), (16, .bool (decide (1 ≤ s.2.1)))] [(1, .box 64 [.int .i64 s.1, .int .i64 s.2.1, .sl (.sl (.int .i64)) s.2.2.1, .sl (.sl (.int .i64)) s.2.2.2])] ?_
      rcases zI h with ⟨hb3, h⟩ | ⟨hb3, h⟩
      ·
        refine zT [(1, .bp 1 0), (16, .bool true)] [(1, .box 64 [.int .i64 s.1, .int .i64 s.2.1, .sl (.sl (.int .i64)) s.2.2.1, .sl (.sl (.int .i64)) s.2.2.2])] gt ?_
        refine zS 5 [(1, .bp 1 0), (21, .bool (decide (s.2.1 ≤ 4)))] [(1, .box 64 [.int .i64 s.1, .int .i64 s.2.1, .sl (.sl (.int .i64)) s.2.2.1, .sl (.sl (.int .i64)) s.2.2.2])] ?_
        rcases zI h with ⟨hb4, h⟩ | ⟨hb4, h⟩
        ·
          refine zT [(1, .bp 1 0), (21, .bool true)] [(1, .box 64 [.int .i64 s.1, .int .i64 s.2.1, .sl (.sl (.int .i64)) s.2.2.1, .sl (.sl (.int .i64)) s.2.2.2])] gt ?_
          refine zS 5 [(1, .bp 1 0), (21, .bool true), (22, .agg [.int .i64 s.1, .int .i64 s.2.1, .sl (.sl (.int .i64)) s.2.2.1, .sl (.sl (.int .i64)) s.2.2.2]), (24, .sl (.sl (.int .i64)) s.2.2.1), (26, .int .i64 s.1)] [(1, .box 64 [.int .i64 s.1, .int .i64 s.2.1, .sl (.sl (.int .i64)) s.2.2.1, .sl (.sl (.int .i64)) s.2.2.2])] ?_
          obtain ⟨v0, hv5, h⟩ := Option.bind_eq_some_iff.1 h
          refine zG [] [] (hc_linealref01_isTable s s.2.2.1 s.1 hv5) [(1, .bp 1 0), (21, .bool true), (27, .bool v0)] [(1, .box 64 [.int .i64 s.1, .int .i64 s.2.1, .sl (.sl (.int .i64)) s.2.2.1, .sl (.sl (.int .i64)) s.2.2.2])] ?_
          refine zS 2 [(1, .bp 1 0), (29, .bool v0)] [(1, .box 64 [.int .i64 s.1, .int .i64 s.2.1, .sl (.sl (.int .i64)) s.2.2.1, .sl (.sl (.int .i64)) s.2.2.2])] ?_
          rcases zI h with ⟨hb6, h⟩ | ⟨hb6, h⟩
          ·
            refine zT [(1, .bp 1 0), (29, .bool true)] [(1, .box 64 [.int .i64 s.1, .int .i64 s.2.1, .sl (.sl (.int .i64)) s.2.2.1, .sl (.sl (.int .i64)) s.2.2.2])] gt ?_
            refine zS 3 [(29, .bool true), (30, .agg [.int .i64 s.1, .int .i64 s.2.1, .sl (.sl (.int .i64)) s.2.2.1, .sl (.sl (.int .i64)) s.2.2.2]), (32, .sl (.sl (.int .i64)) s.2.2.2)] [] ?_
            obtain ⟨v0_2, hv7, h⟩ := Option.bind_eq_some_iff.1 h
            refine zG [] [] (hc_linealref01_isTable s s.2.2.2 6 hv7) [(29, .bool true), (33, .bool v0_2)] [] ?_
            refine zB [(2, .bool v0_2)] [] ?_
            refine AW.ret ?_
            obtain rfl := Option.some.inj h
            exact zR [] [] []
          ·
            refine zT [(1, .bp 1 0), (29, .bool false)] [(1, .box 64 [.int .i64 s.1, .int .i64 s.2.1, .sl (.sl (.int .i64)) s.2.2.1, .sl (.sl (.int .i64)) s.2.2.2])] gt ?_
            refine zS 4 [(29, .bool false), (33, .cv (undef))] [] ?_
            refine zB [(2, .bool false)] [] ?_
            refine AW.ret ?_
            obtain rfl := Option.some.inj h
            exact zR [] [] []
        ·
          refine zT [(1, .bp 1 0), (21, .bool false)] [(1, .box 64 [.int .i64 s.1, .int .i64 s.2.1, .sl (.sl (.int .i64)) s.2.2.1, .sl (.sl (.int .i64)) s.2.2.2])] gt ?_
          refine zS 4 [(1, .bp 1 0), (21, .bool false), (22, .cv (undef)), (24, .cv (undef)), (25, .cv (undef))] [(1, .box 64 [.int .i64 s.1, .int .i64 s.2.1, .sl (.sl (.int .i64)) s.2.2.1, .sl (.sl (.int .i64)) s.2.2.2])] ?_
          refine zS 6 [(29, .bool false), (30, .cv (undef)), (31, .cv (undef))] [] ?_
          refine zB [(2, .bool false)] [] ?_
          refine AW.ret ?_
          obtain rfl := Option.some.inj h
          exact zR [] [] []
      ·
        refine zT [(1, .bp 1 0), (16, .bool false)] [(1, .box 64 [.int .i64 s.1, .int .i64 s.2.1, .sl (.sl (.int .i64)) s.2.2.1, .sl (.sl (.int .i64)) s.2.2.2])] gt ?_
        refine zS 6 [(1, .bp 1 0), (21, .bool false), (22, .cv (undef))] [(1, .box 64 [.int .i64 s.1, .int .i64 s.2.1, .sl (.sl (.int .i64)) s.2.2.1, .sl (.sl (.int .i64)) s.2.2.2])] ?_
        refine zS 4 [(1, .bp 1 0), (21, .bool false), (22, .cv (undef)), (24, .cv (undef)), (26, .cv (undef))] [(1, .box 64 [.int .i64 s.1, .int .i64 s.2.1, .sl (.sl (.int .i64)) s.2.2.1, .sl (.sl (.int .i64)) s.2.2.2])] ?_
        refine zS 6 [(29, .bool false), (30, .cv (undef)), (32, .cv (undef))] [] ?_
        refine zB [(2, .bool false)] [] ?_
        refine AW.ret ?_
        obtain rfl := Option.some.inj h
        exact zR [] [] []
    ·
      refine zT [(1, .bp 1 0), (11, .bool false)] [(1, .box 64 [.int .i64 s.1, .int .i64 s.2.1, .sl (.sl (.int .i64)) s.2.2.1, .sl (.sl (.int .i64)) s.2.2.2])] gt ?_
      refine zS 6 [(1, .bp 1 0), (16, .bool false), (17, .cv (undef))] [(1, .box 64 [.int .i64 s.1, .int .i64 s.2.1, .sl (.sl (.int .i64)) s.2.2.1, .sl (.sl (.int .i64)) s.2.2.2])] ?_
      refine zS 6 [(1, .bp 1 0), (21, .bool false), (22, .cv (undef)), (23, .cv (undef))] [(1, .box 64 [.int .i64 s.1, .int .i64 s.2.1, .sl (.sl (.int .i64)) s.2.2.1, .sl (.sl (.int .i64)) s.2.2.2])] ?_
      refine zS 4 [(1, .bp 1 0), (21, .bool false), (27, .cv (undef))] [(1, .box 64 [.int .i64 s.1, .int .i64 s.2.1, .sl (.sl (.int .i64)) s.2.2.1, .sl (.sl (.int .i64)) s.2.2.2])] ?_
      refine zS 6 [(29, .bool false), (33, .cv (undef))] [] ?_
      refine zB [(2, .bool false)] [] ?_
      refine AW.ret ?_
      obtain rfl := Option.some.inj h
      exact zR [] [] []
  ·
    refine zT [(1, .bp 1 0), (6, .bool false)] [(1, .box 64 [.int .i64 s.1, .int .i64 s.2.1, .sl (.sl (.int .i64)) s.2.2.1, .sl (.sl (.int .i64)) s.2.2.2])] gt ?_
    refine zS 6 [(1, .bp 1 0), (11, .bool false), (12, .cv (undef))] [(1, .box 64 [.int .i64 s.1, .int .i64 s.2.1, .sl (.sl (.int .i64)) s.2.2.1, .sl (.sl (.int .i64)) s.2.2.2])] ?_
    refine zS 6 [(1, .bp 1 0), (16, .bool false), (18, .cv (undef))] [(1, .box 64 [.int .i64 s.1, .int .i64 s.2.1, .sl (.sl (.int .i64)) s.2.2.1, .sl (.sl (.int .i64)) s.2.2.2])] ?_
    refine zS 6 [(1, .bp 1 0), (21, .bool false), (22, .cv (undef)), (24, .cv (undef))] [(1, .box 64 [.int .i64 s.1, .int .i64 s.2.1, .sl (.sl (.int .i64)) s.2.2.1, .sl (.sl (.int .i64)) s.2.2.2])] ?_
    refine zS 6 [(1, .bp 1 0), (29, .bool false), (30, .cv (undef))] [(1, .box 64 [.int .i64 s.1, .int .i64 s.2.1, .sl (.sl (.int .i64)) s.2.2.1, .sl (.sl (.int .i64)) s.2.2.2])] ?_
    refine zB [(2, .bool false)] [] ?_
    refine AW.ret ?_
    obtain rfl := Option.some.inj h
    exact zR [] [] []

theorem hc_linealref02_areSpecs (specs : List (Int × Int × (List (List Int)) × (List (List Int)))) {r : Bool} (h : linealref02_areSpecs specs = some r) : HC Try.prog 62 [] [.sl Y0 specs] [] (.bool r) := by
  unfold linealref02_areSpecs at h
  refine zH Try.func62 [.tmp 2] 19 ?_
  refine zo ?_
  refine zB [(0, .sl Y0 specs)] [] ?_
  refine AW.have1 (fun _ : Unit => linealref02_areSpecs_k1 specs = some r) (fun _ => ⟨fr [(0, .sl Y0 specs)], hpGet [], gt⟩) (fun _ h => ?_) (fun hk_linealref02_areSpecs_k1 => ?_)
  · unfold linealref02_areSpecs_k1 at h
    refine zo ?_
    refine zS 2 [(17, .int .i64 (specs.length : Int))] [] ?_
    obtain ⟨v0_2, hv1, h⟩ := Option.bind_eq_some_iff.1 h
    refine zC [] [] (hc_linealref02_within 1 (specs.length : Int) 2 hv1) [(18, .bool v0_2)] [] ?_
    refine zB [(2, .bool v0_2)] [] ?_
    refine AW.ret ?_
    obtain rfl := Option.some.inj h
    exact zR [] [] []
  · refine AW.seq ?_
    refine zo ?_
    refine zB [(0, .sl Y0 specs), (3, .int .i64 0)] [] ?_
    refine AW.block ?_
    obtain ⟨rv6, hw2, ho3⟩ := Option.bind_eq_some_iff.1 h
    refine AW.loopO (linealref02_areSpecs_b1 specs) (fun st1 => ⟨fr [(0, .sl Y0 specs), (3, .int .i64 st1)], hpGet [], gt⟩) 0 hw2 (zL [] [] []) ?_
    intro st1 x5 h hd4
    unfold linealref02_areSpecs_b1 at h
    refine AW.seq ?_
    refine zo ?_
    refine zB [(0, .sl Y0 specs), (3, .int .i64 st1), (7, .bool (decide (st1 < (specs.length : Int))))] [] ?_
    refine zQ h (fun hb7 h => ?_) (fun hb7 h => ?_)
    ·
      refine zk ?_
      refine AW.seq ?_
      refine AW.block ?_
      refine zo ?_
      obtain ⟨c8, h⟩ := ck_some.1 h
      obtain ⟨c9, h⟩ := ck_some.1 h
      refine zS 4 [(0, .sl Y0 specs), (3, .int .i64 st1), (13, .agg [.int .i64 (specs.getD st1.toNat (0, 0, [], [])).1, .int .i64 (specs.getD st1.toNat (0, 0, [], [])).2.1, .sl (.sl (.int .i64)) (specs.getD st1.toNat (0, 0, [], [])).2.2.1, .sl (.sl (.int .i64)) (specs.getD st1.toNat (0, 0, [], [])).2.2.2])] [] ?_
      obtain ⟨v0, hv10, h⟩ := Option.bind_eq_some_iff.1 h
      refine zC [] [] (hc_linealref01_Valid (specs.getD st1.toNat (0, 0, [], [])) hv10) [(0, .sl Y0 specs), (3, .int .i64 st1), (14, .bool v0)] [] ?_
      refine zB [(0, .sl Y0 specs), (3, .int .i64 st1), (15, .bool (!v0))] [] ?_
      refine zQ h (fun hb11 h => ?_) (fun hb11 h => ?_)
      ·
        refine zo ?_
        refine zB [(2, .bool false)] [] ?_
        refine AW.ret ?_
        refine ablock_r ?_
        refine athen_r ?_
        obtain rfl := Option.some.inj h
        rw [← hd4 _ rfl] at ho3
        have h := ho3
        try simp only at h
        refine athen_r ?_
        refine ablock_r ?_
        refine athen_r ?_
        obtain rfl := Option.some.inj h
        exact zR [] [] []
      ·
        refine zm ?_
        refine athen_n ?_
        refine AW.ops ?_
        obtain ⟨c12, h⟩ := ck_some.1 h
        refine zA [(0, .sl Y0 specs), (3, .int .i64 (st1 + 1))] [] ?_
        obtain rfl := Option.some.inj h
        exact ⟨_, rfl, zL [] [] []⟩
    ·
      refine AW.exit ?_
      refine athen_e ?_
      obtain rfl := Option.some.inj h
      rw [← hd4 _ rfl] at ho3
      have h := ho3
      try simp only at h
      refine athen_e ?_
      refine ablock_s ?_
      refine athen_n ?_
      exact AW.weaken (zL [] [] []) (hk_linealref02_areSpecs_k1 () h)

theorem hc_linealref02_isFor (specs : List (Int × Int × (List (List Int)) × (List (List Int)))) (h0 : List (Int × Int × Int × Int × Int × Int)) {r : Bool} (h : linealref02_isFor specs h0 = some r) : HC Try.prog 63 [] [.sl Y0 specs, .sl Y1 h0] [] (.bool r) := by
  unfold linealref02_isFor at h
  refine zH Try.func63 [.tmp 4] 45 ?_
  refine zo ?_
  refine zB [(0, .sl Y0 specs), (1, .sl Y1 h0)] [] ?_
  refine AW.seq ?_
  refine zo ?_
  refine zS 1 [(0, .sl Y0 specs), (1, .sl Y1 h0), (6, .sl Y0 specs)] [] ?_
  obtain ⟨v0, hv1, h⟩ := Option.bind_eq_some_iff.1 h
  refine zC [] [] (hc_linealref02_areSpecs specs hv1) [(0, .sl Y0 specs), (1, .sl Y1 h0), (7, .bool v0)] [] ?_
  refine zS 2 [(0, .sl Y0 specs), (1, .sl Y1 h0), (9, .bool (!v0))] [] ?_
  rcases zI h with ⟨hb2, h⟩ | ⟨hb2, h⟩
  ·
    refine zT [(0, .sl Y0 specs), (1, .sl Y1 h0), (9, .bool true)] [] gt ?_
    refine zB [(0, .sl Y0 specs), (1, .sl Y1 h0), (13, .bool true)] [] ?_
    refine AW.cond (b := true) rfl (fun _ => ?_) (fun hb3 => by cases hb3)
    refine zo ?_
    refine zB [(4, .bool false)] [] ?_
    refine zr ?_
    obtain rfl := Option.some.inj h
    exact zR [] [] []
  ·
    refine zT [(0, .sl Y0 specs), (1, .sl Y1 h0), (9, .bool false)] [] gt ?_
    refine zS 1 [(0, .sl Y0 specs), (1, .sl Y1 h0), (9, .bool false), (10, .sl Y1 h0)] [] ?_
    obtain ⟨v0_2, hv4, h⟩ := Option.bind_eq_some_iff.1 h
    refine zG [] [] (hc_linealref02_Valid h0 hv4) [(0, .sl Y0 specs), (1, .sl Y1 h0), (9, .bool false), (11, .bool v0_2)] [] ?_
    refine zB [(0, .sl Y0 specs), (1, .sl Y1 h0), (13, .bool (!v0_2))] [] ?_
    refine zQ h (fun hb5 h => ?_) (fun hb5 h => ?_)
    ·
      refine zo ?_
      refine zB [(4, .bool false)] [] ?_
      refine zr ?_
      obtain rfl := Option.some.inj h
      exact zR [] [] []
    ·
      refine zk ?_
      refine AW.have1 (fun _ : Unit => linealref02_isFor_k1 = some r) (fun _ => ⟨fr [], hpGet [], gt⟩) (fun _ h => ?_) (fun hk_linealref02_isFor_k1 => ?_)
      · unfold linealref02_isFor_k1 at h
        refine zo ?_
        refine zB [(4, .bool true)] [] ?_
        refine AW.ret ?_
        obtain rfl := Option.some.inj h
        exact zR [] [] []
      · refine AW.seq ?_
        refine zo ?_
        refine zB [(0, .sl Y0 specs), (1, .sl Y1 h0), (5, .int .i64 0)] [] ?_
        refine AW.block ?_
        obtain ⟨rv10, hw6, ho7⟩ := Option.bind_eq_some_iff.1 h
        refine AW.loopO (linealref02_isFor_b1 specs h0) (fun st1 => ⟨fr [(0, .sl Y0 specs), (1, .sl Y1 h0), (5, .int .i64 st1)], hpGet [], gt⟩) 0 hw6 (zL [] [] []) ?_
        intro st1 x9 h hd8
        unfold linealref02_isFor_b1 at h
        refine AW.seq ?_
        refine zo ?_
        refine zB [(0, .sl Y0 specs), (1, .sl Y1 h0), (5, .int .i64 st1), (17, .bool (decide (st1 < (h0.length : Int))))] [] ?_
        refine zQ h (fun hb11 h => ?_) (fun hb11 h => ?_)
        ·
          refine zk ?_
          refine AW.seq ?_
          refine AW.block ?_
          refine AW.seq ?_
          refine AW.draw tab_ok mixed_ok [] [] (by decide) (lex_fast (by kernel_rfl)) ?_
          obtain ⟨c13, h⟩ := ck_some.1 h
          obtain ⟨c14, h⟩ := ck_some.1 h
          refine adops_cut 6 (fun K' hK12 => ?_)
          try dsimp only [List.drop_succ_cons, List.drop_zero, List.take_succ_cons, List.take_zero]
          simp only [go_sem, hb2, hb5, hb11]
          repeat (with_reducible refine And.intro (by first | assumption | rfl | omega | trivial | (unfold maxLen; omega)) ?_)
          refine hK12 _ ?_
          refine adops_cut 3 (fun K' hK15 => ?_)
          try dsimp only [List.drop_succ_cons, List.drop_zero, List.take_succ_cons, List.take_zero]
          simp only [go_sem, hb2, hb5, hb11]
          repeat (with_reducible refine And.intro (by first | assumption | rfl | omega | trivial | (unfold maxLen; omega)) ?_)
          refine hK15 _ ?_
          rcases zI h with ⟨hb16, h⟩ | ⟨hb16, h⟩
          ·
            simp only [hb16]
            refine adops_cut 4 (fun K' hK17 => ?_)
            try dsimp only [List.drop_succ_cons, List.drop_zero, List.take_succ_cons, List.take_zero]
            simp only [go_sem, hb2, hb5, hb11, hb16]
            repeat (with_reducible refine And.intro (by first | assumption | rfl | omega | trivial | (unfold maxLen; omega)) ?_)
            refine hK17 _ ?_
            refine adops_cut 4 (fun K' hK18 => ?_)
            try dsimp only [List.drop_succ_cons, List.drop_zero, List.take_succ_cons, List.take_zero]
            simp only [go_sem, hb2, hb5, hb11, hb16]
            repeat (with_reducible refine And.intro (by first | assumption | rfl | omega | trivial | (unfold maxLen; omega)) ?_)
            refine hK18 _ ?_
            refine adops_cut 4 (fun K' hK19 => ?_)
            try dsimp only [List.drop_succ_cons, List.drop_zero, List.take_succ_cons, List.take_zero]
            simp only [go_sem, hb2, hb5, hb11, hb16]
            repeat (with_reducible refine And.intro (by first | assumption | rfl | omega | trivial | (unfold maxLen; omega)) ?_)
            refine hK19 _ ?_
            refine adops_cut 4 (fun K' hK20 => ?_)
            try dsimp only [List.drop_succ_cons, List.drop_zero, List.take_succ_cons, List.take_zero]
            simp only [go_sem, hb2, hb5, hb11, hb16]
            repeat (with_reducible refine And.intro (by first | assumption | rfl | omega | trivial | (unfold maxLen; omega)) ?_)
            refine hK20 _ ?_
            refine adops_nil ?_
            refine athen_n ?_
            refine zV [(0, .sl Y0 specs), (1, .sl Y1 h0), (5, .int .i64 st1), (44, .bool true)] [] gt ?_
            refine AW.cond (b := true) rfl (fun _ => ?_) (fun hb21 => by cases hb21)
            refine zo ?_
            refine zB [(4, .bool false)] [] ?_
            refine AW.ret ?_
            refine ablock_r ?_
            refine athen_r ?_
            obtain rfl := Option.some.inj h
            rw [← hd8 _ rfl] at ho7
            have h := ho7
            try simp only at h
            refine athen_r ?_
            refine ablock_r ?_
            refine athen_r ?_
            obtain rfl := Option.some.inj h
            exact zR [] [] []
          ·
            simp only [hb16]
            obtain ⟨c23, h⟩ := ck_some.1 h
            obtain ⟨c24, h⟩ := ck_some.1 h
            refine adops_cut 6 (fun K' hK22 => ?_)
            try dsimp only [List.drop_succ_cons, List.drop_zero, List.take_succ_cons, List.take_zero]
            simp only [go_sem, hb2, hb5, hb11, hb16]
            repeat (with_reducible refine And.intro (by first | assumption | rfl | omega | trivial | (unfold maxLen; omega)) ?_)
            refine hK22 _ ?_
            obtain ⟨c26, h⟩ := ck_some.1 h
            obtain ⟨c27, h⟩ := ck_some.1 h
            obtain ⟨c28, h⟩ := ck_some.1 h
            obtain ⟨c29, h⟩ := ck_some.1 h
            refine adops_cut 6 (fun K' hK25 => ?_)
            try dsimp only [List.drop_succ_cons, List.drop_zero, List.take_succ_cons, List.take_zero]
            simp only [go_sem, hb2, hb5, hb11, hb16]
            repeat (with_reducible refine And.intro (by first | assumption | rfl | omega | trivial | (unfold maxLen; omega)) ?_)
            refine hK25 _ ?_
            refine adops_cut 4 (fun K' hK30 => ?_)
            try dsimp only [List.drop_succ_cons, List.drop_zero, List.take_succ_cons, List.take_zero]
            simp only [go_sem, hb2, hb5, hb11, hb16]
            repeat (with_reducible refine And.intro (by first | assumption | rfl | omega | trivial | (unfold maxLen; omega)) ?_)
            refine hK30 _ ?_
            refine adops_nil ?_
            refine athen_n ?_
            refine zV [(0, .sl Y0 specs), (1, .sl Y1 h0), (5, .int .i64 st1), (44, .bool (decide ((specs.getD (h0.getD st1.toNat (0, 0, 0, 0, 0, 0)).2.1.toNat (0, 0, [], [])).2.1 ≤ (h0.getD st1.toNat (0, 0, 0, 0, 0, 0)).2.2.1)))] [] gt ?_
            refine zQ h (fun hb31 h => ?_) (fun hb31 h => ?_)
            ·
              refine zo ?_
              refine zB [(4, .bool false)] [] ?_
              refine AW.ret ?_
              refine ablock_r ?_
              refine athen_r ?_
              obtain rfl := Option.some.inj h
              rw [← hd8 _ rfl] at ho7
              have h := ho7
              try simp only at h
              refine athen_r ?_
              refine ablock_r ?_
              refine athen_r ?_
              obtain rfl := Option.some.inj h
              exact zR [] [] []
            ·
              refine zm ?_
              refine athen_n ?_
              refine AW.ops ?_
              obtain ⟨c32, h⟩ := ck_some.1 h
              refine zA [(0, .sl Y0 specs), (1, .sl Y1 h0), (5, .int .i64 (st1 + 1))] [] ?_
              obtain rfl := Option.some.inj h
              exact ⟨_, rfl, zL [] [] []⟩
        ·
          refine AW.exit ?_
          refine athen_e ?_
          obtain rfl := Option.some.inj h
          rw [← hd8 _ rfl] at ho7
          have h := ho7
          try simp only at h
          refine athen_e ?_
          refine ablock_s ?_
          refine athen_n ?_
          exact AW.weaken (zL [] [] []) (hk_linealref02_isFor_k1 () h)

theorem hc_history_Orders_1 (a0 : List (Int × Int × (List (List Int)) × (List (List Int)))) (a1 : List (Int × Int × Int × Int × Int × Int)) {r : Int} (h : history_Orders_1 a0 a1 = some r) : HC Try.prog 97 [(1000, .box 22 [.sl Y0 a0]), (1001, .box 23 [.sl Y1 a1])] [.bp 1000 0, .bp 1001 0] [(1000, .box 22 [.sl Y0 a0]), (1001, .box 23 [.sl Y1 a1])] (.int .i64 r) := by
  unfold history_Orders_1 at h
  refine zH Try.func97 [.tmp 2] 8 ?_
  refine zo ?_
  refine zB [(0, .bp 1000 0), (1, .bp 1001 0)] [(1000, .box 22 [.sl Y0 a0]), (1001, .box 23 [.sl Y1 a1])] ?_
  refine zo ?_
  refine zS 2 [(3, .sl Y0 a0), (4, .sl Y1 a1)] [(1000, .box 22 [.sl Y0 a0]), (1001, .box 23 [.sl Y1 a1])] ?_
  obtain ⟨v0, hv1, h⟩ := Option.bind_eq_some_iff.1 h
  refine zC [] [] (hc_history_newSearch a0 a1 hv1) [(5, .agg [.sl Y0 a0, .sl Y1 a1, .fn (.func 77) [] [], .own 15000])] [(1000, .box 22 [.sl Y0 a0]), (1001, .box 23 [.sl Y1 a1]), (15000, .map true false (.pair (.pair (.int .i64) (.int .i64)) (.int .u64)) (.int .i64) [])] ?_
  refine zS 1 [(5, .agg [.sl Y0 a0, .sl Y1 a1, .fn (.func 77) [] [], .own 15000]), (6, .agg [.int .i64 0, .int .i64 0, .int .u64 0])] [(1000, .box 22 [.sl Y0 a0]), (1001, .box 23 [.sl Y1 a1]), (15000, .map true false (.pair (.pair (.int .i64) (.int .i64)) (.int .u64)) (.int .i64) [])] ?_
  obtain ⟨v0_2, hv2, h⟩ := Option.bind_eq_some_iff.1 h
  refine zC [] [(1000, 15000)] (hc_history_search_count fuel a0 a1 ((0, 0), 0) [] hv2) [(7, .int .i64 v0_2.1)] [(1000, .box 22 [.sl Y0 a0]), (1001, .box 23 [.sl Y1 a1])] ?_
  refine zB [(2, .int .i64 v0_2.1)] [(1000, .box 22 [.sl Y0 a0]), (1001, .box 23 [.sl Y1 a1])] ?_
  refine AW.ret ?_
  obtain rfl := Option.some.inj h
  exact zR [] [] []

theorem hc_history_told_19 (c0 : List (Int × Int × (List (List Int)) × (List (List Int)))) (c1 : List (Int × Int × Int × Int × Int × Int)) {r : Int} (h : history_told_19 c0 c1 = some r) : HC Try.prog 96 [(1000, .box 22 [.sl Y0 c0]), (1001, .box 23 [.sl Y1 c1])] [.int .i64 0, .fn (.func 97) [] [.bp 1000 0, .bp 1001 0]] [(1000, .box 22 [.sl Y0 c0]), (1001, .box 23 [.sl Y1 c1])] (.tup [.int .i64 r, .int .i64 0]) := by
  unfold history_told_19 at h
  refine zH Try.func96 [.tmp 4, .tmp 5] 13 ?_
  refine zo ?_
  refine zB [(0, .int .i64 0), (1, .fn (.func 97) [] [.bp 1000 0, .bp 1001 0])] [(1000, .box 22 [.sl Y0 c0]), (1001, .box 23 [.sl Y1 c1])] ?_
  refine AW.seq ?_
  refine zo ?_
  refine zB [(0, .int .i64 0), (1, .fn (.func 97) [] [.bp 1000 0, .bp 1001 0]), (8, .bool false)] [(1000, .box 22 [.sl Y0 c0]), (1001, .box 23 [.sl Y1 c1])] ?_
  refine AW.cond (b := false) rfl (fun hb1 => by cases hb1) (fun _ => ?_)
  refine zk ?_
  refine zo ?_
  refine zS 1 [(11, .fn (.func 97) [] [.bp 1000 0, .bp 1001 0])] [(1000, .box 22 [.sl Y0 c0]), (1001, .box 23 [.sl Y1 c1])] ?_
  obtain ⟨v0, hv2, h⟩ := Option.bind_eq_some_iff.1 h
  refine zC [] [(1000, 1000), (1001, 1001)] (hc_history_Orders_1 c0 c1 hv2) [(12, .int .i64 v0)] [(1000, .box 22 [.sl Y0 c0]), (1001, .box 23 [.sl Y1 c1])] ?_
  refine zB [(4, .int .i64 v0), (5, .int .i64 0)] [(1000, .box 22 [.sl Y0 c0]), (1001, .box 23 [.sl Y1 c1])] ?_
  refine AW.ret ?_
  obtain rfl := Option.some.inj h
  exact zR [] [] []

theorem hc_history_told_20 (err : Int) (c0 : List (Int × Int × (List (List Int)) × (List (List Int)))) (c1 : List (Int × Int × Int × Int × Int × Int)) (hnz_err : decide (err = 0) = false) {r : Unit} (h : history_told_20 err c0 c1 = some r) : HC Try.prog 96 [(1000, .box 22 [.sl Y0 c0]), (1001, .box 23 [.sl Y1 c1])] [.int .i64 err, .fn (.func 97) [] [.bp 1000 0, .bp 1001 0]] [(1000, .box 22 [.sl Y0 c0]), (1001, .box 23 [.sl Y1 c1])] (.tup [.int .i64 0, .int .i64 err]) := by
  unfold history_told_20 at h
  refine zH Try.func96 [.tmp 4, .tmp 5] 13 ?_
  refine zo ?_
  refine zB [(0, .int .i64 err), (1, .fn (.func 97) [] [.bp 1000 0, .bp 1001 0])] [(1000, .box 22 [.sl Y0 c0]), (1001, .box 23 [.sl Y1 c1])] ?_
  refine AW.seq ?_
  refine zo ?_
  refine zB [(0, .int .i64 err), (1, .fn (.func 97) [] [.bp 1000 0, .bp 1001 0]), (8, .bool true)] [(1000, .box 22 [.sl Y0 c0]), (1001, .box 23 [.sl Y1 c1])] ?_
  refine AW.cond (b := true) rfl (fun _ => ?_) (fun hb1 => by cases hb1)
  refine zo ?_
  refine zB [(0, .int .i64 err), (6, .int .i64 0)] [(1000, .box 22 [.sl Y0 c0]), (1001, .box 23 [.sl Y1 c1])] ?_
  refine zo ?_
  refine zB [(4, .int .i64 0), (5, .int .i64 err)] [(1000, .box 22 [.sl Y0 c0]), (1001, .box 23 [.sl Y1 c1])] ?_
  refine zr ?_
  obtain rfl := Option.some.inj h
  exact zR [] [] []

theorem hc_history_Orders (specs : List (Int × Int × (List (List Int)) × (List (List Int)))) (h0 : List (Int × Int × Int × Int × Int × Int)) {r : Int × Int} (h : history_Orders specs h0 = some r) : HC Try.prog 39 [] [.sl Y0 specs, .sl Y1 h0] [] (.tup [.int .i64 r.1, .int .i64 r.2]) := by
  unfold history_Orders at h
  refine zH Try.func39 [.tmp 4, .tmp 5] 13 ?_
  refine zo ?_
  refine zB [(2, .bp 2 0), (3, .bp 3 0)] [(2, .box 22 [.sl Y0 specs]), (3, .box 23 [.sl Y1 h0])] ?_
  refine zo ?_
  refine zS 2 [(2, .bp 2 0), (3, .bp 3 0), (6, .sl Y0 specs), (7, .sl Y1 h0)] [(2, .box 22 [.sl Y0 specs]), (3, .box 23 [.sl Y1 h0])] ?_
  obtain ⟨v0, hv1, h⟩ := Option.bind_eq_some_iff.1 h
  refine zC [] [] (hc_history_checkFor specs h0 hv1) [(2, .bp 2 0), (3, .bp 3 0), (8, .int .i64 v0)] [(2, .box 22 [.sl Y0 specs]), (3, .box 23 [.sl Y1 h0])] ?_
  refine zS 1 [(8, .int .i64 v0), (9, .fn (.func 97) [] [.bp 2 0, .bp 3 0])] [(2, .box 22 [.sl Y0 specs]), (3, .box 23 [.sl Y1 h0])] ?_
  rcases Bool.eq_false_or_eq_true (decide (v0 = 0)) with hb2 | hb2
  · rw [if_pos hb2] at h
    have hz3 : v0 = 0 := by simpa using hb2
    refine zT [(8, .int .i64 0), (9, .fn (.func 97) [] [.bp 2 0, .bp 3 0])] [(2, .box 22 [.sl Y0 specs]), (3, .box 23 [.sl Y1 h0])] gt ?_
    obtain ⟨v0_2, hv4, h⟩ := Option.bind_eq_some_iff.1 h
    refine zC [] [(1000, 2), (1001, 3)] (hc_history_told_19 specs h0 hv4) [(10, .tup [.int .i64 v0_2, .int .i64 0])] [] ?_
    refine zB [(4, .int .i64 v0_2), (5, .int .i64 0)] [] ?_
    refine AW.ret ?_
    obtain rfl := Option.some.inj h
    exact zR [] [] []
  · rw [if_neg (Bool.eq_false_iff.1 hb2)] at h
    refine zT [(8, .int .i64 v0), (9, .fn (.func 97) [] [.bp 2 0, .bp 3 0])] [(2, .box 22 [.sl Y0 specs]), (3, .box 23 [.sl Y1 h0])] gt ?_
    obtain ⟨v0_3, hv5, h⟩ := Option.bind_eq_some_iff.1 h
    refine zC [] [(1000, 2), (1001, 3)] (hc_history_told_20 v0 specs h0 hb2 hv5) [(10, .tup [.int .i64 0, .int .i64 v0])] [] ?_
    refine zB [(4, .int .i64 0), (5, .int .i64 v0)] [] ?_
    refine AW.ret ?_
    obtain rfl := Option.some.inj h
    exact zR [] [] []

theorem hc_history_Linear_1 (a0 : List (Int × Int × (List (List Int)) × (List (List Int)))) (a1 : List (Int × Int × Int × Int × Int × Int)) {r : Bool} (h : history_Linear_1 a0 a1 = some r) : HC Try.prog 93 [(1000, .box 22 [.sl Y0 a0]), (1001, .box 23 [.sl Y1 a1])] [.bp 1000 0, .bp 1001 0] [(1000, .box 22 [.sl Y0 a0]), (1001, .box 23 [.sl Y1 a1])] (.bool r) := by
  unfold history_Linear_1 at h
  refine zH Try.func93 [.tmp 2] 9 ?_
  refine zo ?_
  refine zB [(0, .bp 1000 0), (1, .bp 1001 0)] [(1000, .box 22 [.sl Y0 a0]), (1001, .box 23 [.sl Y1 a1])] ?_
  refine zo ?_
  refine zS 2 [(3, .sl Y0 a0), (4, .sl Y1 a1)] [(1000, .box 22 [.sl Y0 a0]), (1001, .box 23 [.sl Y1 a1])] ?_
  obtain ⟨v0, hv1, h⟩ := Option.bind_eq_some_iff.1 h
  refine zC [] [] (hc_history_newSearch a0 a1 hv1) [(5, .agg [.sl Y0 a0, .sl Y1 a1, .fn (.func 77) [] [], .own 15000])] [(1000, .box 22 [.sl Y0 a0]), (1001, .box 23 [.sl Y1 a1]), (15000, .map true false (.pair (.pair (.int .i64) (.int .i64)) (.int .u64)) (.int .i64) [])] ?_
  refine zS 1 [(5, .agg [.sl Y0 a0, .sl Y1 a1, .fn (.func 77) [] [], .own 15000]), (6, .agg [.int .i64 0, .int .i64 0, .int .u64 0])] [(1000, .box 22 [.sl Y0 a0]), (1001, .box 23 [.sl Y1 a1]), (15000, .map true false (.pair (.pair (.int .i64) (.int .i64)) (.int .u64)) (.int .i64) [])] ?_
  obtain ⟨v0_2, hv2, h⟩ := Option.bind_eq_some_iff.1 h
  refine zC [] [(1000, 15000)] (hc_history_search_count fuel a0 a1 ((0, 0), 0) [] hv2) [(7, .int .i64 v0_2.1)] [(1000, .box 22 [.sl Y0 a0]), (1001, .box 23 [.sl Y1 a1])] ?_
  refine zB [(2, .bool (decide (0 < v0_2.1)))] [(1000, .box 22 [.sl Y0 a0]), (1001, .box 23 [.sl Y1 a1])] ?_
  refine AW.ret ?_
  obtain rfl := Option.some.inj h
  exact zR [] [] []

theorem hc_history_told_21 (c0 : List (Int × Int × (List (List Int)) × (List (List Int)))) (c1 : List (Int × Int × Int × Int × Int × Int)) {r : Bool} (h : history_told_21 c0 c1 = some r) : HC Try.prog 58 [(1000, .box 22 [.sl Y0 c0]), (1001, .box 23 [.sl Y1 c1])] [.int .i64 0, .fn (.func 93) [] [.bp 1000 0, .bp 1001 0]] [(1000, .box 22 [.sl Y0 c0]), (1001, .box 23 [.sl Y1 c1])] (.tup [.bool r, .int .i64 0]) := by
  unfold history_told_21 at h
  refine zH Try.func58 [.tmp 4, .tmp 5] 13 ?_
  refine zo ?_
  refine zB [(0, .int .i64 0), (1, .fn (.func 93) [] [.bp 1000 0, .bp 1001 0])] [(1000, .box 22 [.sl Y0 c0]), (1001, .box 23 [.sl Y1 c1])] ?_
  refine AW.seq ?_
  refine zo ?_
  refine zB [(0, .int .i64 0), (1, .fn (.func 93) [] [.bp 1000 0, .bp 1001 0]), (8, .bool false)] [(1000, .box 22 [.sl Y0 c0]), (1001, .box 23 [.sl Y1 c1])] ?_
  refine AW.cond (b := false) rfl (fun hb1 => by cases hb1) (fun _ => ?_)
  refine zk ?_
  refine zo ?_
  refine zS 1 [(11, .fn (.func 93) [] [.bp 1000 0, .bp 1001 0])] [(1000, .box 22 [.sl Y0 c0]), (1001, .box 23 [.sl Y1 c1])] ?_
  obtain ⟨v0, hv2, h⟩ := Option.bind_eq_some_iff.1 h
  refine zC [] [(1000, 1000), (1001, 1001)] (hc_history_Linear_1 c0 c1 hv2) [(12, .bool v0)] [(1000, .box 22 [.sl Y0 c0]), (1001, .box 23 [.sl Y1 c1])] ?_
  refine zB [(4, .bool v0), (5, .int .i64 0)] [(1000, .box 22 [.sl Y0 c0]), (1001, .box 23 [.sl Y1 c1])] ?_
  refine AW.ret ?_
  obtain rfl := Option.some.inj h
  exact zR [] [] []

theorem hc_history_told_22 (err : Int) (c0 : List (Int × Int × (List (List Int)) × (List (List Int)))) (c1 : List (Int × Int × Int × Int × Int × Int)) (hnz_err : decide (err = 0) = false) {r : Unit} (h : history_told_22 err c0 c1 = some r) : HC Try.prog 58 [(1000, .box 22 [.sl Y0 c0]), (1001, .box 23 [.sl Y1 c1])] [.int .i64 err, .fn (.func 93) [] [.bp 1000 0, .bp 1001 0]] [(1000, .box 22 [.sl Y0 c0]), (1001, .box 23 [.sl Y1 c1])] (.tup [.bool false, .int .i64 err]) := by
  unfold history_told_22 at h
  refine zH Try.func58 [.tmp 4, .tmp 5] 13 ?_
  refine zo ?_
  refine zB [(0, .int .i64 err), (1, .fn (.func 93) [] [.bp 1000 0, .bp 1001 0])] [(1000, .box 22 [.sl Y0 c0]), (1001, .box 23 [.sl Y1 c1])] ?_
  refine AW.seq ?_
  refine zo ?_
  refine zB [(0, .int .i64 err), (1, .fn (.func 93) [] [.bp 1000 0, .bp 1001 0]), (8, .bool true)] [(1000, .box 22 [.sl Y0 c0]), (1001, .box 23 [.sl Y1 c1])] ?_
  refine AW.cond (b := true) rfl (fun _ => ?_) (fun hb1 => by cases hb1)
  refine zo ?_
  refine zB [(0, .int .i64 err), (6, .bool false)] [(1000, .box 22 [.sl Y0 c0]), (1001, .box 23 [.sl Y1 c1])] ?_
  refine zo ?_
  refine zB [(4, .bool false), (5, .int .i64 err)] [(1000, .box 22 [.sl Y0 c0]), (1001, .box 23 [.sl Y1 c1])] ?_
  refine zr ?_
  obtain rfl := Option.some.inj h
  exact zR [] [] []

theorem hc_history_Linear (specs : List (Int × Int × (List (List Int)) × (List (List Int)))) (h0 : List (Int × Int × Int × Int × Int × Int)) {r : Bool × Int} (h : history_Linear specs h0 = some r) : HC Try.prog 35 [] [.sl Y0 specs, .sl Y1 h0] [] (.tup [.bool r.1, .int .i64 r.2]) := by
  unfold history_Linear at h
  refine zH Try.func35 [.tmp 4, .tmp 5] 13 ?_
  refine zo ?_
  refine zB [(2, .bp 2 0), (3, .bp 3 0)] [(2, .box 22 [.sl Y0 specs]), (3, .box 23 [.sl Y1 h0])] ?_
  refine zo ?_
  refine zS 2 [(2, .bp 2 0), (3, .bp 3 0), (6, .sl Y0 specs), (7, .sl Y1 h0)] [(2, .box 22 [.sl Y0 specs]), (3, .box 23 [.sl Y1 h0])] ?_
  obtain ⟨v0, hv1, h⟩ := Option.bind_eq_some_iff.1 h
  refine zC [] [] (hc_history_checkFor specs h0 hv1) [(2, .bp 2 0), (3, .bp 3 0), (8, .int .i64 v0)] [(2, .box 22 [.sl Y0 specs]), (3, .box 23 [.sl Y1 h0])] ?_
  refine zS 1 [(8, .int .i64 v0), (9, .fn (.func 93) [] [.bp 2 0, .bp 3 0])] [(2, .box 22 [.sl Y0 specs]), (3, .box 23 [.sl Y1 h0])] ?_
  rcases Bool.eq_false_or_eq_true (decide (v0 = 0)) with hb2 | hb2
  · rw [if_pos hb2] at h
    have hz3 : v0 = 0 := by simpa using hb2
    refine zT [(8, .int .i64 0), (9, .fn (.func 93) [] [.bp 2 0, .bp 3 0])] [(2, .box 22 [.sl Y0 specs]), (3, .box 23 [.sl Y1 h0])] gt ?_
    obtain ⟨v0_2, hv4, h⟩ := Option.bind_eq_some_iff.1 h
    refine zC [] [(1000, 2), (1001, 3)] (hc_history_told_21 specs h0 hv4) [(10, .tup [.bool v0_2, .int .i64 0])] [] ?_
    refine zB [(4, .bool v0_2), (5, .int .i64 0)] [] ?_
    refine AW.ret ?_
    obtain rfl := Option.some.inj h
    exact zR [] [] []
  · rw [if_neg (Bool.eq_false_iff.1 hb2)] at h
    refine zT [(8, .int .i64 v0), (9, .fn (.func 93) [] [.bp 2 0, .bp 3 0])] [(2, .box 22 [.sl Y0 specs]), (3, .box 23 [.sl Y1 h0])] gt ?_
    obtain ⟨v0_3, hv5, h⟩ := Option.bind_eq_some_iff.1 h
    refine zC [] [(1000, 2), (1001, 3)] (hc_history_told_22 v0 specs h0 hb2 hv5) [(10, .tup [.bool false, .int .i64 v0])] [] ?_
    refine zB [(4, .bool false), (5, .int .i64 v0)] [] ?_
    refine AW.ret ?_
    obtain rfl := Option.some.inj h
    exact zR [] [] []

theorem hc_linealref02_asked (specs : List (Int × Int × (List (List Int)) × (List (List Int)))) (h0 : List (Int × Int × Int × Int × Int × Int)) {r : Int} (h : linealref02_asked specs h0 = some r) : HC Try.prog 79 [] [.sl Y0 specs, .sl Y1 h0] [] (.int .i64 r) := by
  unfold linealref02_asked at h
  refine zH Try.func79 [.tmp 4] 12 ?_
  refine zo ?_
  refine zB [(0, .sl Y0 specs), (1, .sl Y1 h0)] [] ?_
  refine AW.seq ?_
  refine zo ?_
  refine zS 1 [(0, .sl Y0 specs), (1, .sl Y1 h0), (5, .sl Y0 specs)] [] ?_
  obtain ⟨v0, hv1, h⟩ := Option.bind_eq_some_iff.1 h
  refine zC [] [] (hc_linealref02_areSpecs specs hv1) [(0, .sl Y0 specs), (1, .sl Y1 h0), (6, .bool v0)] [] ?_
  refine zB [(0, .sl Y0 specs), (1, .sl Y1 h0), (7, .bool (!v0))] [] ?_
  refine zQ h (fun hb2 h => ?_) (fun hb2 h => ?_)
  ·
    refine zo ?_
    refine zB [(4, .int .i64 10)] [] ?_
    refine zr ?_
    obtain rfl := Option.some.inj h
    exact zR [] [] []
  ·
    refine zk ?_
    refine AW.seq ?_
    refine zo ?_
    refine zS 2 [(8, .sl Y0 specs), (9, .sl Y1 h0)] [] ?_
    obtain ⟨v0_2, hv3, h⟩ := Option.bind_eq_some_iff.1 h
    refine zC [] [] (hc_linealref02_isFor specs h0 hv3) [(10, .bool v0_2)] [] ?_
    refine zB [(11, .bool (!v0_2))] [] ?_
    refine zQ h (fun hb4 h => ?_) (fun hb4 h => ?_)
    ·
      refine zo ?_
      refine zB [(4, .int .i64 20)] [] ?_
      refine zr ?_
      obtain rfl := Option.some.inj h
      exact zR [] [] []
    ·
      refine zk ?_
      refine zo ?_
      refine zB [(4, .int .i64 0)] [] ?_
      refine AW.ret ?_
      obtain rfl := Option.some.inj h
      exact zR [] [] []

theorem hc_linealref02_allows (specs : List (Int × Int × (List (List Int)) × (List (List Int)))) (h0 : List (Int × Int × Int × Int × Int × Int)) (l : List Int) {r : Bool} (h : linealref02_allows specs h0 l = some r) : HC Try.prog 82 [] [.sl Y0 specs, .sl Y1 h0, .sl (.int .i64) l] [] (.bool r) := by
  unfold linealref02_allows at h
  refine zH Try.func82 [.tmp 6] 70 ?_
  refine zo ?_
  refine zB [(0, .sl Y0 specs), (1, .sl Y1 h0), (2, .sl (.int .i64) l)] [] ?_
  refine zo ?_
  obtain ⟨c1, h⟩ := ck_some.1 h
  refine zB [(0, .sl Y0 specs), (1, .sl Y1 h0), (2, .sl (.int .i64) l), (7, .own 13)] [(13, .arr 3 (.int .i64) (List.replicate specs.length (0 : Int)))] ?_
  refine AW.have1 (fun _ : Unit => linealref02_allows_k1 = some r) (fun _ => ⟨fr [], hpGet [], gt⟩) (fun _ h => ?_) (fun hk_linealref02_allows_k1 => ?_)
  · unfold linealref02_allows_k1 at h
    refine zo ?_
    refine zB [(6, .bool true)] [] ?_
    refine AW.ret ?_
    obtain rfl := Option.some.inj h
    exact zR [] [] []
  · refine AW.seq ?_
    refine zo ?_
    refine zB [(0, .sl Y0 specs), (1, .sl Y1 h0), (2, .sl (.int .i64) l), (7, .own 13), (8, .int .i64 0)] [(13, .arr 3 (.int .i64) (List.replicate specs.length (0 : Int)))] ?_
    refine AW.block ?_
    obtain ⟨rv6, hw2, ho3⟩ := Option.bind_eq_some_iff.1 h
    refine AW.loopO (linealref02_allows_b1 specs h0 l) (fun st1 => ⟨fr [(0, .sl Y0 specs), (1, .sl Y1 h0), (2, .sl (.int .i64) l), (7, .own 13), (8, .int .i64 st1.2)], hpGet [(13, .arr 3 (.int .i64) st1.1)], gt⟩) ((List.replicate specs.length (0 : Int)), 0) hw2 (zL [] [] []) ?_
    intro st1 x5 h hd4
    unfold linealref02_allows_b1 at h
    refine AW.seq ?_
    refine zo ?_
    refine zB [(0, .sl Y0 specs), (1, .sl Y1 h0), (2, .sl (.int .i64) l), (7, .own 13), (8, .int .i64 st1.2), (17, .bool (decide (st1.2 < (l.length : Int))))] [(13, .arr 3 (.int .i64) st1.1)] ?_
    refine zQ h (fun hb7 h => ?_) (fun hb7 h => ?_)
    ·
      refine zk ?_
      refine AW.seq ?_
      refine AW.block ?_
      refine zo ?_
      obtain ⟨c8, h⟩ := ck_some.1 h
      obtain ⟨c9, h⟩ := ck_some.1 h
      obtain ⟨c10, h⟩ := ck_some.1 h
      obtain ⟨c11, h⟩ := ck_some.1 h
      refine zB [(0, .sl Y0 specs), (1, .sl Y1 h0), (2, .sl (.int .i64) l), (7, .own 13), (8, .int .i64 st1.2), (9, .bp 9 0)] [(9, .box 55 [.int .i64 (h0.getD (l.getD st1.2.toNat 0).toNat (0, 0, 0, 0, 0, 0)).1, .int .i64 (h0.getD (l.getD st1.2.toNat 0).toNat (0, 0, 0, 0, 0, 0)).2.1, .int .i64 (h0.getD (l.getD st1.2.toNat 0).toNat (0, 0, 0, 0, 0, 0)).2.2.1, .int .i64 (h0.getD (l.getD st1.2.toNat 0).toNat (0, 0, 0, 0, 0, 0)).2.2.2.1, .int .i64 (h0.getD (l.getD st1.2.toNat 0).toNat (0, 0, 0, 0, 0, 0)).2.2.2.2.1, .int .i64 (h0.getD (l.getD st1.2.toNat 0).toNat (0, 0, 0, 0, 0, 0)).2.2.2.2.2]), (13, .arr 3 (.int .i64) st1.1)] ?_
      refine zo ?_
      obtain ⟨c12, h⟩ := ck_some.1 h
      obtain ⟨c13, h⟩ := ck_some.1 h
      refine zB [(0, .sl Y0 specs), (1, .sl Y1 h0), (2, .sl (.int .i64) l), (7, .own 13), (8, .int .i64 st1.2), (9, .bp 9 0), (10, .bp 10 0)] [(9, .box 55 [.int .i64 (h0.getD (l.getD st1.2.toNat 0).toNat (0, 0, 0, 0, 0, 0)).1, .int .i64 (h0.getD (l.getD st1.2.toNat 0).toNat (0, 0, 0, 0, 0, 0)).2.1, .int .i64 (h0.getD (l.getD st1.2.toNat 0).toNat (0, 0, 0, 0, 0, 0)).2.2.1, .int .i64 (h0.getD (l.getD st1.2.toNat 0).toNat (0, 0, 0, 0, 0, 0)).2.2.2.1, .int .i64 (h0.getD (l.getD st1.2.toNat 0).toNat (0, 0, 0, 0, 0, 0)).2.2.2.2.1, .int .i64 (h0.getD (l.getD st1.2.toNat 0).toNat (0, 0, 0, 0, 0, 0)).2.2.2.2.2]), (10, .box 64 [.int .i64 (specs.getD (h0.getD (l.getD st1.2.toNat 0).toNat (0, 0, 0, 0, 0, 0)).2.1.toNat (0, 0, [], [])).1, .int .i64 (specs.getD (h0.getD (l.getD st1.2.toNat 0).toNat (0, 0, 0, 0, 0, 0)).2.1.toNat (0, 0, [], [])).2.1, .sl (.sl (.int .i64)) (specs.getD (h0.getD (l.getD st1.2.toNat 0).toNat (0, 0, 0, 0, 0, 0)).2.1.toNat (0, 0, [], [])).2.2.1, .sl (.sl (.int .i64)) (specs.getD (h0.getD (l.getD st1.2.toNat 0).toNat (0, 0, 0, 0, 0, 0)).2.1.toNat (0, 0, [], [])).2.2.2]), (13, .arr 3 (.int .i64) st1.1)] ?_
      refine AW.have1 (fun _ : Unit => linealref02_allows_k2 specs h0 l st1 = some x5) (fun _ => ⟨fr [(0, .sl Y0 specs), (1, .sl Y1 h0), (2, .sl (.int .i64) l), (7, .own 13), (8, .int .i64 st1.2), (9, .bp 9 0), (10, .bp 10 0)], hpGet [(9, .box 55 [.int .i64 (h0.getD (l.getD st1.2.toNat 0).toNat (0, 0, 0, 0, 0, 0)).1, .int .i64 (h0.getD (l.getD st1.2.toNat 0).toNat (0, 0, 0, 0, 0, 0)).2.1, .int .i64 (h0.getD (l.getD st1.2.toNat 0).toNat (0, 0, 0, 0, 0, 0)).2.2.1, .int .i64 (h0.getD (l.getD st1.2.toNat 0).toNat (0, 0, 0, 0, 0, 0)).2.2.2.1, .int .i64 (h0.getD (l.getD st1.2.toNat 0).toNat (0, 0, 0, 0, 0, 0)).2.2.2.2.1, .int .i64 (h0.getD (l.getD st1.2.toNat 0).toNat (0, 0, 0, 0, 0, 0)).2.2.2.2.2]), (10, .box 64 [.int .i64 (specs.getD (h0.getD (l.getD st1.2.toNat 0).toNat (0, 0, 0, 0, 0, 0)).2.1.toNat (0, 0, [], [])).1, .int .i64 (specs.getD (h0.getD (l.getD st1.2.toNat 0).toNat (0, 0, 0, 0, 0, 0)).2.1.toNat (0, 0, [], [])).2.1, .sl (.sl (.int .i64)) (specs.getD (h0.getD (l.getD st1.2.toNat 0).toNat (0, 0, 0, 0, 0, 0)).2.1.toNat (0, 0, [], [])).2.2.1, .sl (.sl (.int .i64)) (specs.getD (h0.getD (l.getD st1.2.toNat 0).toNat (0, 0, 0, 0, 0, 0)).2.1.toNat (0, 0, [], [])).2.2.2]), (13, .arr 3 (.int .i64) st1.1)], gt⟩) (fun _ h => ?_) (fun hk_linealref02_allows_k2 => ?_)
      · unfold linealref02_allows_k2 at h
        refine AW.draw tab_ok mixed_ok [(17, [13])] [] (by decide) (by kernel_rfl) ?_
        refine adops_cut 6 (fun K' hK14 => ?_)
        try dsimp only [List.drop_succ_cons, List.drop_zero, List.take_succ_cons, List.take_zero]
        simp only [go_sem, hb7]
        repeat (with_reducible refine And.intro (by first | assumption | rfl | omega | trivial | (unfold maxLen; omega)) ?_)
        refine hK14 _ ?_
        obtain ⟨c16, h⟩ := ck_some.1 h
        obtain ⟨c17, h⟩ := ck_some.1 h
        obtain ⟨c18, h⟩ := ck_some.1 h
        obtain ⟨c19, h⟩ := ck_some.1 h
        refine adops_cut 6 (fun K' hK15 => ?_)
        try dsimp only [List.drop_succ_cons, List.drop_zero, List.take_succ_cons, List.take_zero]
        simp only [go_sem, hb7]
        repeat (with_reducible refine And.intro (by first | assumption | rfl | omega | trivial | (unfold maxLen; omega)) ?_)
        refine hK15 _ ?_
        obtain ⟨c21, h⟩ := ck_some.1 h
        obtain ⟨c22, h⟩ := ck_some.1 h
        obtain ⟨c23, h⟩ := ck_some.1 h
        obtain ⟨c24, h⟩ := ck_some.1 h
        refine adops_cut 6 (fun K' hK20 => ?_)
        try dsimp only [List.drop_succ_cons, List.drop_zero, List.take_succ_cons, List.take_zero]
        simp only [go_sem, hb7]
        repeat (with_reducible refine And.intro (by first | assumption | rfl | omega | trivial | (unfold maxLen; omega)) ?_)
        refine hK20 _ ?_
        refine adops_nil ?_
        refine ablock_n ?_
        refine athen_n ?_
        refine zV [(0, .sl Y0 specs), (1, .sl Y1 h0), (2, .sl (.int .i64) l), (7, .own 13), (8, .int .i64 st1.2)] [(13, .arr 3 (.int .i64) (st1.1.set (h0.getD (l.getD st1.2.toNat 0).toNat (0, 0, 0, 0, 0, 0)).2.1.toNat (((specs.getD (h0.getD (l.getD st1.2.toNat 0).toNat (0, 0, 0, 0, 0, 0)).2.1.toNat (0, 0, [], [])).2.2.1.getD (st1.1.getD (h0.getD (l.getD st1.2.toNat 0).toNat (0, 0, 0, 0, 0, 0)).2.1.toNat 0).toNat []).getD (h0.getD (l.getD st1.2.toNat 0).toNat (0, 0, 0, 0, 0, 0)).2.2.1.toNat 0)))] gt ?_
        refine AW.ops ?_
        obtain ⟨c25, h⟩ := ck_some.1 h
        refine zA [(0, .sl Y0 specs), (1, .sl Y1 h0), (2, .sl (.int .i64) l), (7, .own 13), (8, .int .i64 (st1.2 + 1))] [(13, .arr 3 (.int .i64) (st1.1.set (h0.getD (l.getD st1.2.toNat 0).toNat (0, 0, 0, 0, 0, 0)).2.1.toNat (((specs.getD (h0.getD (l.getD st1.2.toNat 0).toNat (0, 0, 0, 0, 0, 0)).2.1.toNat (0, 0, [], [])).2.2.1.getD (st1.1.getD (h0.getD (l.getD st1.2.toNat 0).toNat (0, 0, 0, 0, 0, 0)).2.1.toNat 0).toNat []).getD (h0.getD (l.getD st1.2.toNat 0).toNat (0, 0, 0, 0, 0, 0)).2.2.1.toNat 0)))] ?_
        obtain rfl := Option.some.inj h
        exact ⟨_, rfl, zL [] [] []⟩
      · refine AW.seq ?_
        refine AW.seq ?_
        refine AW.draw tab_ok mixed_ok [] [] (by decide) (by kernel_rfl) ?_
        refine adops_cut 4 (fun K' hK26 => ?_)
        try dsimp only [List.drop_succ_cons, List.drop_zero, List.take_succ_cons, List.take_zero]
        simp only [go_sem, hb7]
        repeat (with_reducible refine And.intro (by first | assumption | rfl | omega | trivial | (unfold maxLen; omega)) ?_)
        refine hK26 _ ?_
        rcases zI h with ⟨hb27, h⟩ | ⟨hb27, h⟩
        ·
          simp only [hb27]
          obtain ⟨c29, h⟩ := ck_some.1 h
          obtain ⟨c30, h⟩ := ck_some.1 h
          refine adops_cut 6 (fun K' hK28 => ?_)
          try dsimp only [List.drop_succ_cons, List.drop_zero, List.take_succ_cons, List.take_zero]
          simp only [go_sem, hb7, hb27]
          repeat (with_reducible refine And.intro (by first | assumption | rfl | omega | trivial | (unfold maxLen; omega)) ?_)
          refine hK28 _ ?_
          obtain ⟨c32, h⟩ := ck_some.1 h
          obtain ⟨c33, h⟩ := ck_some.1 h
          obtain ⟨c34, h⟩ := ck_some.1 h
          obtain ⟨c35, h⟩ := ck_some.1 h
          refine adops_cut 6 (fun K' hK31 => ?_)
          try dsimp only [List.drop_succ_cons, List.drop_zero, List.take_succ_cons, List.take_zero]
          simp only [go_sem, hb7, hb27]
          repeat (with_reducible refine And.intro (by first | assumption | rfl | omega | trivial | (unfold maxLen; omega)) ?_)
          refine hK31 _ ?_
          refine adops_cut 5 (fun K' hK36 => ?_)
          try dsimp only [List.drop_succ_cons, List.drop_zero, List.take_succ_cons, List.take_zero]
          simp only [go_sem, hb7, hb27]
          repeat (with_reducible refine And.intro (by first | assumption | rfl | omega | trivial | (unfold maxLen; omega)) ?_)
          refine hK36 _ ?_
          refine adops_nil ?_
          refine athen_n ?_
          refine zV [(0, .sl Y0 specs), (1, .sl Y1 h0), (2, .sl (.int .i64) l), (7, .own 13), (8, .int .i64 st1.2), (9, .bp 9 0), (10, .bp 10 0), (52, .bool (!(decide ((((specs.getD (h0.getD (l.getD st1.2.toNat 0).toNat (0, 0, 0, 0, 0, 0)).2.1.toNat (0, 0, [], [])).2.2.2.getD (st1.1.getD (h0.getD (l.getD st1.2.toNat 0).toNat (0, 0, 0, 0, 0, 0)).2.1.toNat 0).toNat []).getD (h0.getD (l.getD st1.2.toNat 0).toNat (0, 0, 0, 0, 0, 0)).2.2.1.toNat 0) = (h0.getD (l.getD st1.2.toNat 0).toNat (0, 0, 0, 0, 0, 0)).2.2.2.1))))] [(9, .box 55 [.int .i64 (h0.getD (l.getD st1.2.toNat 0).toNat (0, 0, 0, 0, 0, 0)).1, .int .i64 (h0.getD (l.getD st1.2.toNat 0).toNat (0, 0, 0, 0, 0, 0)).2.1, .int .i64 (h0.getD (l.getD st1.2.toNat 0).toNat (0, 0, 0, 0, 0, 0)).2.2.1, .int .i64 (h0.getD (l.getD st1.2.toNat 0).toNat (0, 0, 0, 0, 0, 0)).2.2.2.1, .int .i64 (h0.getD (l.getD st1.2.toNat 0).toNat (0, 0, 0, 0, 0, 0)).2.2.2.2.1, .int .i64 (h0.getD (l.getD st1.2.toNat 0).toNat (0, 0, 0, 0, 0, 0)).2.2.2.2.2]), (10, .box 64 [.int .i64 (specs.getD (h0.getD (l.getD st1.2.toNat 0).toNat (0, 0, 0, 0, 0, 0)).2.1.toNat (0, 0, [], [])).1, .int .i64 (specs.getD (h0.getD (l.getD st1.2.toNat 0).toNat (0, 0, 0, 0, 0, 0)).2.1.toNat (0, 0, [], [])).2.1, .sl (.sl (.int .i64)) (specs.getD (h0.getD (l.getD st1.2.toNat 0).toNat (0, 0, 0, 0, 0, 0)).2.1.toNat (0, 0, [], [])).2.2.1, .sl (.sl (.int .i64)) (specs.getD (h0.getD (l.getD st1.2.toNat 0).toNat (0, 0, 0, 0, 0, 0)).2.1.toNat (0, 0, [], [])).2.2.2]), (13, .arr 3 (.int .i64) st1.1)] gt ?_
          refine zQ h (fun hb37 h => ?_) (fun hb37 h => ?_)
          ·
            refine zo ?_
            refine zB [(6, .bool false)] [] ?_
            refine zr ?_
            refine ablock_r ?_
            refine athen_r ?_
            obtain rfl := Option.some.inj h
            rw [← hd4 _ rfl] at ho3
            have h := ho3
            try simp only at h
            refine athen_r ?_
            refine ablock_r ?_
            refine athen_r ?_
            obtain rfl := Option.some.inj h
            exact zR [] [] []
          ·
            refine zk ?_
            exact AW.weaken (zL [] [] []) (hk_linealref02_allows_k2 () h)
        ·
          simp only [hb27]
          refine adops_cut 4 (fun K' hK38 => ?_)
          try dsimp only [List.drop_succ_cons, List.drop_zero, List.take_succ_cons, List.take_zero]
          simp only [go_sem, hb7, hb27]
          repeat (with_reducible refine And.intro (by first | assumption | rfl | omega | trivial | (unfold maxLen; omega)) ?_)
          refine hK38 _ ?_
          refine adops_cut 4 (fun K' hK39 => ?_)
          try dsimp only [List.drop_succ_cons, List.drop_zero, List.take_succ_cons, List.take_zero]
          simp only [go_sem, hb7, hb27]
          repeat (with_reducible refine And.intro (by first | assumption | rfl | omega | trivial | (unfold maxLen; omega)) ?_)
          refine hK39 _ ?_
          refine adops_cut 4 (fun K' hK40 => ?_)
          try dsimp only [List.drop_succ_cons, List.drop_zero, List.take_succ_cons, List.take_zero]
          simp only [go_sem, hb7, hb27]
          repeat (with_reducible refine And.intro (by first | assumption | rfl | omega | trivial | (unfold maxLen; omega)) ?_)
          refine hK40 _ ?_
          refine adops_cut 4 (fun K' hK41 => ?_)
          try dsimp only [List.drop_succ_cons, List.drop_zero, List.take_succ_cons, List.take_zero]
          simp only [go_sem, hb7, hb27]
          repeat (with_reducible refine And.intro (by first | assumption | rfl | omega | trivial | (unfold maxLen; omega)) ?_)
          refine hK41 _ ?_
          refine adops_cut 1 (fun K' hK42 => ?_)
          try dsimp only [List.drop_succ_cons, List.drop_zero, List.take_succ_cons, List.take_zero]
          simp only [go_sem, hb7, hb27]
          repeat (with_reducible refine And.intro (by first | assumption | rfl | omega | trivial | (unfold maxLen; omega)) ?_)
          refine hK42 _ ?_
          refine adops_nil ?_
          refine athen_n ?_
          refine zV [(0, .sl Y0 specs), (1, .sl Y1 h0), (2, .sl (.int .i64) l), (7, .own 13), (8, .int .i64 st1.2), (9, .bp 9 0), (10, .bp 10 0), (52, .bool false)] [(9, .box 55 [.int .i64 (h0.getD (l.getD st1.2.toNat 0).toNat (0, 0, 0, 0, 0, 0)).1, .int .i64 (h0.getD (l.getD st1.2.toNat 0).toNat (0, 0, 0, 0, 0, 0)).2.1, .int .i64 (h0.getD (l.getD st1.2.toNat 0).toNat (0, 0, 0, 0, 0, 0)).2.2.1, .int .i64 (h0.getD (l.getD st1.2.toNat 0).toNat (0, 0, 0, 0, 0, 0)).2.2.2.1, .int .i64 (h0.getD (l.getD st1.2.toNat 0).toNat (0, 0, 0, 0, 0, 0)).2.2.2.2.1, .int .i64 (h0.getD (l.getD st1.2.toNat 0).toNat (0, 0, 0, 0, 0, 0)).2.2.2.2.2]), (10, .box 64 [.int .i64 (specs.getD (h0.getD (l.getD st1.2.toNat 0).toNat (0, 0, 0, 0, 0, 0)).2.1.toNat (0, 0, [], [])).1, .int .i64 (specs.getD (h0.getD (l.getD st1.2.toNat 0).toNat (0, 0, 0, 0, 0, 0)).2.1.toNat (0, 0, [], [])).2.1, .sl (.sl (.int .i64)) (specs.getD (h0.getD (l.getD st1.2.toNat 0).toNat (0, 0, 0, 0, 0, 0)).2.1.toNat (0, 0, [], [])).2.2.1, .sl (.sl (.int .i64)) (specs.getD (h0.getD (l.getD st1.2.toNat 0).toNat (0, 0, 0, 0, 0, 0)).2.1.toNat (0, 0, [], [])).2.2.2]), (13, .arr 3 (.int .i64) st1.1)] gt ?_
          refine AW.cond (b := false) rfl (fun hb43 => by cases hb43) (fun _ => ?_)
          refine zk ?_
          exact AW.weaken (zL [] [] []) (hk_linealref02_allows_k2 () h)
    ·
      refine AW.exit ?_
      refine athen_e ?_
      obtain rfl := Option.some.inj h
      rw [← hd4 _ rfl] at ho3
      have h := ho3
      try simp only at h
      refine athen_e ?_
      refine ablock_s ?_
      refine athen_n ?_
      exact AW.weaken (zL [] [] []) (hk_linealref02_allows_k1 () h)

theorem hc_linealref02_has (l : List Int) (n : Int) {r : Bool} (h : linealref02_has l n = some r) : HC Try.prog 120 [] [.sl (.int .i64) l, .int .i64 n] [] (.bool r) := by
  unfold linealref02_has at h
  refine zH Try.func120 [.tmp 4] 18 ?_
  refine zo ?_
  refine zB [(0, .sl (.int .i64) l), (1, .int .i64 n)] [] ?_
  refine AW.have1 (fun _ : Unit => linealref02_has_k1 = some r) (fun _ => ⟨fr [], hpGet [], gt⟩) (fun _ h => ?_) (fun hk_linealref02_has_k1 => ?_)
  · unfold linealref02_has_k1 at h
    refine zo ?_
    refine zB [(4, .bool false)] [] ?_
    refine AW.ret ?_
    obtain rfl := Option.some.inj h
    exact zR [] [] []
  · refine AW.seq ?_
    refine zo ?_
    refine zB [(0, .sl (.int .i64) l), (1, .int .i64 n), (5, .int .i64 0)] [] ?_
    refine AW.block ?_
    obtain ⟨rv5, hw1, ho2⟩ := Option.bind_eq_some_iff.1 h
    refine AW.loopO (linealref02_has_b1 l n) (fun st1 => ⟨fr [(0, .sl (.int .i64) l), (1, .int .i64 n), (5, .int .i64 st1)], hpGet [], gt⟩) 0 hw1 (zL [] [] []) ?_
    intro st1 x4 h hd3
    unfold linealref02_has_b1 at h
    refine AW.seq ?_
    refine zo ?_
    refine zB [(0, .sl (.int .i64) l), (1, .int .i64 n), (5, .int .i64 st1), (9, .bool (decide (st1 < (l.length : Int))))] [] ?_
    refine zQ h (fun hb6 h => ?_) (fun hb6 h => ?_)
    ·
      refine zk ?_
      refine AW.seq ?_
      refine AW.block ?_
      refine zo ?_
      obtain ⟨c7, h⟩ := ck_some.1 h
      obtain ⟨c8, h⟩ := ck_some.1 h
      refine zB [(0, .sl (.int .i64) l), (1, .int .i64 n), (5, .int .i64 st1), (17, .bool (decide ((l.getD st1.toNat 0) = n)))] [] ?_
      refine zQ h (fun hb9 h => ?_) (fun hb9 h => ?_)
      ·
        refine zo ?_
        refine zB [(4, .bool true)] [] ?_
        refine AW.ret ?_
        refine ablock_r ?_
        refine athen_r ?_
        obtain rfl := Option.some.inj h
        rw [← hd3 _ rfl] at ho2
        have h := ho2
        try simp only at h
        refine athen_r ?_
        refine ablock_r ?_
        refine athen_r ?_
        obtain rfl := Option.some.inj h
        exact zR [] [] []
      ·
        refine zm ?_
        refine athen_n ?_
        refine AW.ops ?_
        obtain ⟨c10, h⟩ := ck_some.1 h
        refine zA [(0, .sl (.int .i64) l), (1, .int .i64 n), (5, .int .i64 (st1 + 1))] [] ?_
        obtain rfl := Option.some.inj h
        exact ⟨_, rfl, zL [] [] []⟩
    ·
      refine AW.exit ?_
      refine athen_e ?_
      obtain rfl := Option.some.inj h
      rw [← hd3 _ rfl] at ho2
      have h := ho2
      try simp only at h
      refine athen_e ?_
      refine ablock_s ?_
      refine athen_n ?_
      exact AW.weaken (zL [] [] []) (hk_linealref02_has_k1 () h)

end Go.Proofs.Ytlfpagicagmjgaa
