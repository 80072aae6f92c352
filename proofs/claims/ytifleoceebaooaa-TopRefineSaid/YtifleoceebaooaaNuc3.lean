/-
  Made by wip/tool/dc.py out of the print of the program: contracts.
-/
import Derived.Test.YtifleoceebaooaaRfp
import Derived.Test.YtifleoceebaooaaShr
import Derived.Test.YtifleoceebaooaaAvd
import Derived.Test.YtifleoceebaooaaNuc2
namespace Go.Proofs.Ytifleoceebaooaa
open Go.RowKit

set_option linter.unusedSimpArgs false
set_option linter.unusedVariables false
set_option linter.constructorNameAsVariable false

set_option maxRecDepth 100000
set_option maxHeartbeats 2000000

theorem hc_refine_two_shows (t : ((Int × (List (Int × Int × Int))) × (El T69)) × (Int × (List (Int × Int × Int))) × (El T69)) {r : (List Int) × Bool} (h : refine_two_shows t = some r) : HC Try.prog 92 [] [.agg (.int .i64 t.1.1.1 :: (.sl Y0 t.1.1.2 :: (cellsX T69 t.1.2 ++ (.int .i64 t.2.1.1 :: (.sl Y0 t.2.1.2 :: (cellsX T69 t.2.2))))))] [(2000, .arr 3 (.int .i64) r.1)] (.tup [.own 2000, .bool r.2]) := by
 unfold refine_two_shows at h
 refine zH Try.func92 [.tmp 2, .tmp 3] 82 ?_
 refine zo ?_
 refine zB [(1, .bp 1 0)] [(1, .box 90 (.int .i64 t.1.1.1 :: (.sl Y0 t.1.1.2 :: (cellsX T69 t.1.2 ++ (.int .i64 t.2.1.1 :: (.sl Y0 t.2.1.2 :: (cellsX T69 t.2.2)))))))] ?_
 refine AW.seq ?_
 refine AW.draw tab_ok mixed_ok [(7, [18])] [] (by decide) (lex_fast (by kernel_rfl)) ?_
 as_aux_lemma =>
  refine adops_cut 2 (fun K' hK1 => ?_)
  try dsimp only [List.drop_succ_cons, List.drop_zero, List.take_succ_cons, List.take_zero]
  simp only [go_sem]
  repeat with_reducible refine zN ?_
  refine hK1 _ ?_
  as_aux_lemma =>
   obtain ⟨v0, hv2, h⟩ := Option.bind_eq_some_iff.1 h
   refine adops.call (by first | trivial | rfl) rfl rfl rfl (fun _ h => h) [] [] (hc_refine_frame_begin t.1 hv2) rfl (by (simp only [go_sem]) <;> (with_reducible and_intros) <;> first | assumption | rfl | omega | (unfold maxLen; omega)) (by (simp only [go_sem]) <;> (with_reducible and_intros) <;> first | assumption | rfl | omega | (unfold maxLen; omega)) rfl ?_
   refine adops_cut 2 (fun K' hK3 => ?_)
   try dsimp only [List.drop_succ_cons, List.drop_zero, List.take_succ_cons, List.take_zero]
   simp only [go_sem]
   repeat with_reducible refine zN ?_
   refine hK3 _ ?_
   as_aux_lemma =>
    obtain ⟨v0_2, hv4, h⟩ := Option.bind_eq_some_iff.1 h
    refine adops.call (by first | trivial | rfl) rfl rfl rfl (fun _ h => h) [] [] (hc_refine_frame_begin t.2 hv4) rfl (by (simp only [go_sem]) <;> (with_reducible and_intros) <;> first | assumption | rfl | omega | (unfold maxLen; omega)) (by (simp only [go_sem]) <;> (with_reducible and_intros) <;> first | assumption | rfl | omega | (unfold maxLen; omega)) rfl ?_
    refine adops_cut 3 (fun K' hK5 => ?_)
    try dsimp only [List.drop_succ_cons, List.drop_zero, List.take_succ_cons, List.take_zero]
    simp only [go_sem]
    repeat with_reducible refine zN ?_
    refine hK5 _ ?_
    refine adops_nil ?_
    refine athen_n ?_
    refine zV [(1, .bp 1 0), (4, .own 18)] [(1, .box 90 (.int .i64 t.1.1.1 :: (.sl Y0 t.1.1.2 :: (cellsX T69 t.1.2 ++ (.int .i64 t.2.1.1 :: (.sl Y0 t.2.1.2 :: (cellsX T69 t.2.2))))))), (18, .arr 132 (.pair (.int .u8) (.int .u8)) [((intAt T69 t.1.2 0), (intAt T69 t.2.2 0))])] gt ?_
    as_aux_lemma =>
     refine zo ?_
     refine zB [(1, .bp 1 0), (4, .own 18), (5, .own 19)] [(1, .box 90 (.int .i64 t.1.1.1 :: (.sl Y0 t.1.1.2 :: (cellsX T69 t.1.2 ++ (.int .i64 t.2.1.1 :: (.sl Y0 t.2.1.2 :: (cellsX T69 t.2.2))))))), (18, .arr 132 (.pair (.int .u8) (.int .u8)) [((intAt T69 t.1.2 0), (intAt T69 t.2.2 0))]), (19, .arr 27 (.sl (.int .i64)) [[]])] ?_
     refine zo ?_
     refine AO.makeMap (ak := true) (ae := false) (kt := (.pair (.int .u8) (.int .u8))) (vt := .bool) (by decide) (by decide) rfl rfl ?_
     refine zT [(1, .bp 1 0), (4, .own 18), (5, .own 19), (20, .own 20)] [(1, .box 90 (.int .i64 t.1.1.1 :: (.sl Y0 t.1.1.2 :: (cellsX T69 t.1.2 ++ (.int .i64 t.2.1.1 :: (.sl Y0 t.2.1.2 :: (cellsX T69 t.2.2))))))), (18, .arr 132 (.pair (.int .u8) (.int .u8)) [((intAt T69 t.1.2 0), (intAt T69 t.2.2 0))]), (19, .arr 27 (.sl (.int .i64)) [[]]), (20, .map true false (.pair (.int .u8) (.int .u8)) .bool [])] gt ?_
     refine zS 3 [(1, .bp 1 0), (4, .own 18), (5, .own 19), (20, .own 20), (23, .agg [.int .u8 ([((intAt T69 t.1.2 0), (intAt T69 t.2.2 0))].getD 0 (0, 0)).1, .int .u8 ([((intAt T69 t.1.2 0), (intAt T69 t.2.2 0))].getD 0 (0, 0)).2])] [(1, .box 90 (.int .i64 t.1.1.1 :: (.sl Y0 t.1.1.2 :: (cellsX T69 t.1.2 ++ (.int .i64 t.2.1.1 :: (.sl Y0 t.2.1.2 :: (cellsX T69 t.2.2))))))), (18, .arr 132 (.pair (.int .u8) (.int .u8)) [((intAt T69 t.1.2 0), (intAt T69 t.2.2 0))]), (19, .arr 27 (.sl (.int .i64)) [[]]), (20, .map true false (.pair (.int .u8) (.int .u8)) .bool [])] ?_
     obtain ⟨c6, h⟩ := ck_some.1 h
     obtain ⟨c7, h⟩ := ck_some.1 h
     refine AO.mapPut mapty_134 (by decide) rfl (.inr rfl) rfl rfl (l := [.int .u8 ([((intAt T69 t.1.2 0), (intAt T69 t.2.2 0))].getD 0 (0, 0)).1, .int .u8 ([((intAt T69 t.1.2 0), (intAt T69 t.2.2 0))].getD 0 (0, 0)).2]) (by (simp only [go_sem]) <;> (with_reducible and_intros) <;> first | assumption | rfl | omega | (unfold maxLen; omega)) (by first | rfl | (simp only [go_sem]) <;> (with_reducible and_intros) <;> first | assumption | rfl | omega | (unfold maxLen; omega)) (by (simp only [go_sem]) <;> (with_reducible and_intros) <;> first | assumption | rfl | omega | (unfold maxLen; omega)) (lv := [.bool true]) (by (simp only [go_sem]) <;> (with_reducible and_intros) <;> first | assumption | rfl | omega | (unfold maxLen; omega)) (by first | rfl | (simp only [go_sem]) <;> (with_reducible and_intros) <;> first | assumption | rfl | omega | (unfold maxLen; omega)) ?_
     refine zT [(1, .bp 1 0), (4, .own 18), (5, .own 19), (20, .own 20)] [(1, .box 90 (.int .i64 t.1.1.1 :: (.sl Y0 t.1.1.2 :: (cellsX T69 t.1.2 ++ (.int .i64 t.2.1.1 :: (.sl Y0 t.2.1.2 :: (cellsX T69 t.2.2))))))), (18, .arr 132 (.pair (.int .u8) (.int .u8)) [((intAt T69 t.1.2 0), (intAt T69 t.2.2 0))]), (19, .arr 27 (.sl (.int .i64)) [[]]), (20, .map true false (.pair (.int .u8) (.int .u8)) .bool (mput [] ([((intAt T69 t.1.2 0), (intAt T69 t.2.2 0))].getD 0 (0, 0)) true))] gt ?_
     refine zB [(1, .bp 1 0), (4, .own 18), (5, .own 19), (6, .own 20)] [(1, .box 90 (.int .i64 t.1.1.1 :: (.sl Y0 t.1.1.2 :: (cellsX T69 t.1.2 ++ (.int .i64 t.2.1.1 :: (.sl Y0 t.2.1.2 :: (cellsX T69 t.2.2))))))), (18, .arr 132 (.pair (.int .u8) (.int .u8)) [((intAt T69 t.1.2 0), (intAt T69 t.2.2 0))]), (19, .arr 27 (.sl (.int .i64)) [[]]), (20, .map true false (.pair (.int .u8) (.int .u8)) .bool (mput [] ([((intAt T69 t.1.2 0), (intAt T69 t.2.2 0))].getD 0 (0, 0)) true))] ?_
     refine AW.have1 (fun _ : Unit => refine_two_shows_k1 = some r) (fun _ => ⟨fr [], hpGet [], gt⟩) (fun _ h => ?_) (fun hk_refine_two_shows_k1 => ?_)
     ·as_aux_lemma =>
       unfold refine_two_shows_k1 at h
       refine zo ?_
       refine zB [(2, .cv (.slice none 0 0)), (3, .bool false)] [] ?_
       refine AW.ret ?_
       obtain rfl := Option.some.inj h
       exact zR [] [2000] []
     ·refine AW.seq ?_
      refine zo ?_
      refine zB [(1, .bp 1 0), (4, .own 18), (5, .own 19), (6, .own 20), (7, .int .i64 0)] [(1, .box 90 (.int .i64 t.1.1.1 :: (.sl Y0 t.1.1.2 :: (cellsX T69 t.1.2 ++ (.int .i64 t.2.1.1 :: (.sl Y0 t.2.1.2 :: (cellsX T69 t.2.2))))))), (18, .arr 132 (.pair (.int .u8) (.int .u8)) [((intAt T69 t.1.2 0), (intAt T69 t.2.2 0))]), (19, .arr 27 (.sl (.int .i64)) [[]]), (20, .map true false (.pair (.int .u8) (.int .u8)) .bool (mput [] ([((intAt T69 t.1.2 0), (intAt T69 t.2.2 0))].getD 0 (0, 0)) true))] ?_
      refine AW.block ?_
      obtain ⟨rv12, hw8, ho9⟩ := Option.bind_eq_some_iff.1 h
      refine AW.loopO (refine_two_shows_b1 t) (fun st1 => ⟨fr [(1, .bp 1 0), (4, .own 18), (5, .own 19), (6, .own 20), (7, .int .i64 st1.2.2.2)], hpGet [(1, .box 90 (.int .i64 t.1.1.1 :: (.sl Y0 t.1.1.2 :: (cellsX T69 t.1.2 ++ (.int .i64 t.2.1.1 :: (.sl Y0 t.2.1.2 :: (cellsX T69 t.2.2))))))), (18, .arr 132 (.pair (.int .u8) (.int .u8)) st1.1), (19, .arr 27 (.sl (.int .i64)) st1.2.1), (20, .map true false (.pair (.int .u8) (.int .u8)) .bool st1.2.2.1)], gt⟩) ([((intAt T69 t.1.2 0), (intAt T69 t.2.2 0))], [[]], (mput [] ([((intAt T69 t.1.2 0), (intAt T69 t.2.2 0))].getD 0 (0, 0)) true), 0) hw8 (zL [] [] []) ?_
      as_aux_lemma =>
       intro st1 x11 h hd10
       unfold refine_two_shows_b1 at h
       refine AW.seq ?_
       refine zo ?_
       refine zB [(1, .bp 1 0), (4, .own 18), (5, .own 19), (6, .own 20), (7, .int .i64 st1.2.2.2), (28, .bool (decide (st1.2.2.2 < (st1.1.length : Int))))] [(1, .box 90 (.int .i64 t.1.1.1 :: (.sl Y0 t.1.1.2 :: (cellsX T69 t.1.2 ++ (.int .i64 t.2.1.1 :: (.sl Y0 t.2.1.2 :: (cellsX T69 t.2.2))))))), (18, .arr 132 (.pair (.int .u8) (.int .u8)) st1.1), (19, .arr 27 (.sl (.int .i64)) st1.2.1), (20, .map true false (.pair (.int .u8) (.int .u8)) .bool st1.2.2.1)] ?_
       refine zQ h (fun hb13 h => ?_) (fun hb13 h => ?_)
       ·refine zk ?_
        refine AW.have1 (fun b2 : (List (Int × Int)) × (List (List Int)) × (List ((Int × Int) × Bool)) => refine_two_shows_k2 st1 b2 = some x11) (fun b2 => ⟨fr [(1, .bp 1 0), (4, .own 18), (5, .own 19), (6, .own 20), (7, .int .i64 st1.2.2.2)], hpGet [(1, .box 90 (.int .i64 t.1.1.1 :: (.sl Y0 t.1.1.2 :: (cellsX T69 t.1.2 ++ (.int .i64 t.2.1.1 :: (.sl Y0 t.2.1.2 :: (cellsX T69 t.2.2))))))), (18, .arr 132 (.pair (.int .u8) (.int .u8)) b2.1), (19, .arr 27 (.sl (.int .i64)) b2.2.1), (20, .map true false (.pair (.int .u8) (.int .u8)) .bool b2.2.2)], gt⟩) (fun b2 h => ?_) (fun hk_refine_two_shows_k2 => ?_)
        ·as_aux_lemma =>
          unfold refine_two_shows_k2 at h
          refine AW.ops ?_
          obtain ⟨c14, h⟩ := ck_some.1 h
          refine zA [(1, .bp 1 0), (4, .own 18), (5, .own 19), (6, .own 20), (7, .int .i64 (st1.2.2.2 + 1))] [(1, .box 90 (.int .i64 t.1.1.1 :: (.sl Y0 t.1.1.2 :: (cellsX T69 t.1.2 ++ (.int .i64 t.2.1.1 :: (.sl Y0 t.2.1.2 :: (cellsX T69 t.2.2))))))), (18, .arr 132 (.pair (.int .u8) (.int .u8)) b2.1), (19, .arr 27 (.sl (.int .i64)) b2.2.1), (20, .map true false (.pair (.int .u8) (.int .u8)) .bool b2.2.2)] ?_
          obtain rfl := Option.some.inj h
          exact ⟨_, rfl, zL [] [] []⟩
        ·refine AW.seq ?_
         refine AW.block ?_
         refine zo ?_
         refine zB [(1, .bp 1 0), (4, .own 18), (5, .own 19), (6, .own 20), (7, .int .i64 st1.2.2.2), (8, .int .i64 1)] [(1, .box 90 (.int .i64 t.1.1.1 :: (.sl Y0 t.1.1.2 :: (cellsX T69 t.1.2 ++ (.int .i64 t.2.1.1 :: (.sl Y0 t.2.1.2 :: (cellsX T69 t.2.2))))))), (18, .arr 132 (.pair (.int .u8) (.int .u8)) st1.1), (19, .arr 27 (.sl (.int .i64)) st1.2.1), (20, .map true false (.pair (.int .u8) (.int .u8)) .bool st1.2.2.1)] ?_
         refine AW.block ?_
         obtain ⟨rv19, hw15, ho16⟩ := Option.bind_eq_some_iff.1 h
         refine AW.loopO (refine_two_shows_b2 t st1) (fun st2 => ⟨fr [(1, .bp 1 0), (4, .own 18), (5, .own 19), (6, .own 20), (7, .int .i64 st1.2.2.2), (8, .int .i64 st2.2.2.2)], hpGet [(1, .box 90 (.int .i64 t.1.1.1 :: (.sl Y0 t.1.1.2 :: (cellsX T69 t.1.2 ++ (.int .i64 t.2.1.1 :: (.sl Y0 t.2.1.2 :: (cellsX T69 t.2.2))))))), (18, .arr 132 (.pair (.int .u8) (.int .u8)) st2.1), (19, .arr 27 (.sl (.int .i64)) st2.2.1), (20, .map true false (.pair (.int .u8) (.int .u8)) .bool st2.2.2.1)], gt⟩) (st1.1, st1.2.1, st1.2.2.1, 1) hw15 (zL [] [] []) ?_
         as_aux_lemma =>
          intro st2 x18 h hd17
          unfold refine_two_shows_b2 at h
          refine AW.seq ?_
          refine zo ?_
          refine zB [(1, .bp 1 0), (4, .own 18), (5, .own 19), (6, .own 20), (7, .int .i64 st1.2.2.2), (8, .int .i64 st2.2.2.2), (32, .bool (decide (st2.2.2.2 ≤ 3)))] [(1, .box 90 (.int .i64 t.1.1.1 :: (.sl Y0 t.1.1.2 :: (cellsX T69 t.1.2 ++ (.int .i64 t.2.1.1 :: (.sl Y0 t.2.1.2 :: (cellsX T69 t.2.2))))))), (18, .arr 132 (.pair (.int .u8) (.int .u8)) st2.1), (19, .arr 27 (.sl (.int .i64)) st2.2.1), (20, .map true false (.pair (.int .u8) (.int .u8)) .bool st2.2.2.1)] ?_
          refine zQ h (fun hb20 h => ?_) (fun hb20 h => ?_)
          ·refine zk ?_
           refine AW.seq ?_
           refine AW.block ?_
           refine AW.seq ?_
           refine AW.draw tab_ok mixed_ok [(19, [9]), (20, [9])] [(0, [1]), (1, [1]), (2, [18]), (3, []), (4, [18]), (5, [18]), (6, [18]), (7, []), (8, []), (9, [1]), (10, [1]), (11, [18]), (12, []), (13, [18]), (14, [18]), (15, [18]), (16, []), (17, []), (18, []), (100020, [])] (by decide) (lex_fast (by kernel_rfl)) ?_
           as_aux_lemma =>
            obtain ⟨c22, h⟩ := ck_some.1 h
            obtain ⟨c23, h⟩ := ck_some.1 h
            refine adops_cut 6 (fun K' hK21 => ?_)
            try dsimp only [List.drop_succ_cons, List.drop_zero, List.take_succ_cons, List.take_zero]
            simp only [go_sem, hb13, hb20]
            repeat with_reducible refine zN ?_
            refine hK21 _ ?_
            as_aux_lemma =>
             refine adops_cut 2 (fun K' hK24 => ?_)
             try dsimp only [List.drop_succ_cons, List.drop_zero, List.take_succ_cons, List.take_zero]
             simp only [go_sem, hb13, hb20]
             repeat with_reducible refine zN ?_
             refine hK24 _ ?_
             as_aux_lemma =>
              obtain ⟨v0_3, hv25, h⟩ := Option.bind_eq_some_iff.1 h
              refine adops.call (by first | trivial | rfl) rfl rfl rfl (fun _ h => h) [] [] (hc_refine_frame_after t.1 (st2.1.getD st1.2.2.2.toNat (0, 0)).1 st2.2.2.2 hv25) rfl (by (simp only [go_sem, hb13, hb20]) <;> (with_reducible and_intros) <;> first | assumption | rfl | omega | (unfold maxLen; omega)) (by (simp only [go_sem, hb13, hb20]) <;> (with_reducible and_intros) <;> first | assumption | rfl | omega | (unfold maxLen; omega)) rfl ?_
              obtain ⟨c27, h⟩ := ck_some.1 h
              obtain ⟨c28, h⟩ := ck_some.1 h
              refine adops_cut 6 (fun K' hK26 => ?_)
              try dsimp only [List.drop_succ_cons, List.drop_zero, List.take_succ_cons, List.take_zero]
              simp only [go_sem, hb13, hb20]
              repeat with_reducible refine zN ?_
              refine hK26 _ ?_
              as_aux_lemma =>
               refine adops_cut 2 (fun K' hK29 => ?_)
               try dsimp only [List.drop_succ_cons, List.drop_zero, List.take_succ_cons, List.take_zero]
               simp only [go_sem, hb13, hb20]
               repeat with_reducible refine zN ?_
               refine hK29 _ ?_
               as_aux_lemma =>
                obtain ⟨v0_4, hv30, h⟩ := Option.bind_eq_some_iff.1 h
                refine adops.call (by first | trivial | rfl) rfl rfl rfl (fun _ h => h) [] [] (hc_refine_frame_after t.2 (st2.1.getD st1.2.2.2.toNat (0, 0)).2 st2.2.2.2 hv30) rfl (by (simp only [go_sem, hb13, hb20]) <;> (with_reducible and_intros) <;> first | assumption | rfl | omega | (unfold maxLen; omega)) (by (simp only [go_sem, hb13, hb20]) <;> (with_reducible and_intros) <;> first | assumption | rfl | omega | (unfold maxLen; omega)) rfl ?_
                refine adops_cut 3 (fun K' hK31 => ?_)
                try dsimp only [List.drop_succ_cons, List.drop_zero, List.take_succ_cons, List.take_zero]
                simp only [go_sem, hb13, hb20]
                repeat with_reducible refine zN ?_
                refine hK31 _ ?_
                refine adops_nil ?_
                refine athen_n ?_
                refine zV [(1, .bp 1 0), (4, .own 18), (5, .own 19), (6, .own 20), (7, .int .i64 st1.2.2.2), (8, .int .i64 st2.2.2.2), (9, .bp 9 0)] [(1, .box 90 (.int .i64 t.1.1.1 :: (.sl Y0 t.1.1.2 :: (cellsX T69 t.1.2 ++ (.int .i64 t.2.1.1 :: (.sl Y0 t.2.1.2 :: (cellsX T69 t.2.2))))))), (9, .box 132 [.int .u8 v0_3, .int .u8 v0_4]), (18, .arr 132 (.pair (.int .u8) (.int .u8)) st2.1), (19, .arr 27 (.sl (.int .i64)) st2.2.1), (20, .map true false (.pair (.int .u8) (.int .u8)) .bool st2.2.2.1)] gt ?_
                as_aux_lemma =>
                 refine AW.seq ?_
                 refine zo ?_
                 refine zS 4 [(1, .bp 1 0), (4, .own 18), (5, .own 19), (6, .own 20), (7, .int .i64 st1.2.2.2), (8, .int .i64 st2.2.2.2), (9, .bp 9 0), (57, .bool (decide (v0_3 = 0)))] [(1, .box 90 (.int .i64 t.1.1.1 :: (.sl Y0 t.1.1.2 :: (cellsX T69 t.1.2 ++ (.int .i64 t.2.1.1 :: (.sl Y0 t.2.1.2 :: (cellsX T69 t.2.2))))))), (9, .box 132 [.int .u8 v0_3, .int .u8 v0_4]), (18, .arr 132 (.pair (.int .u8) (.int .u8)) st2.1), (19, .arr 27 (.sl (.int .i64)) st2.2.1), (20, .map true false (.pair (.int .u8) (.int .u8)) .bool st2.2.2.1)] ?_
                 rcases zI h with ⟨hb32, h⟩ | ⟨hb32, h⟩
                 ·refine zB [(1, .bp 1 0), (4, .own 18), (5, .own 19), (6, .own 20), (7, .int .i64 st1.2.2.2), (8, .int .i64 st2.2.2.2), (9, .bp 9 0), (61, .bool true)] [(1, .box 90 (.int .i64 t.1.1.1 :: (.sl Y0 t.1.1.2 :: (cellsX T69 t.1.2 ++ (.int .i64 t.2.1.1 :: (.sl Y0 t.2.1.2 :: (cellsX T69 t.2.2))))))), (9, .box 132 [.int .u8 v0_3, .int .u8 v0_4]), (18, .arr 132 (.pair (.int .u8) (.int .u8)) st2.1), (19, .arr 27 (.sl (.int .i64)) st2.2.1), (20, .map true false (.pair (.int .u8) (.int .u8)) .bool st2.2.2.1)] ?_
                  refine AW.cond (b := true) rfl (fun _ => ?_) (fun hb33 => by cases hb33)
                  refine AW.exit ?_
                  refine athen_e ?_
                  refine ablock_s ?_
                  refine athen_n ?_
                  refine AW.ops ?_
                  obtain ⟨c34, h⟩ := ck_some.1 h
                  refine zA [(1, .bp 1 0), (4, .own 18), (5, .own 19), (6, .own 20), (7, .int .i64 st1.2.2.2), (8, .int .i64 (st2.2.2.2 + 1))] [(1, .box 90 (.int .i64 t.1.1.1 :: (.sl Y0 t.1.1.2 :: (cellsX T69 t.1.2 ++ (.int .i64 t.2.1.1 :: (.sl Y0 t.2.1.2 :: (cellsX T69 t.2.2))))))), (18, .arr 132 (.pair (.int .u8) (.int .u8)) st2.1), (19, .arr 27 (.sl (.int .i64)) st2.2.1), (20, .map true false (.pair (.int .u8) (.int .u8)) .bool st2.2.2.1)] ?_
                  obtain rfl := Option.some.inj h
                  exact ⟨_, rfl, zL [] [] []⟩
                 ·refine zS 2 [(1, .bp 1 0), (4, .own 18), (5, .own 19), (6, .own 20), (7, .int .i64 st1.2.2.2), (8, .int .i64 st2.2.2.2), (9, .bp 9 0), (57, .bool false), (58, .own 20), (59, .agg [.int .u8 v0_3, .int .u8 v0_4])] [(1, .box 90 (.int .i64 t.1.1.1 :: (.sl Y0 t.1.1.2 :: (cellsX T69 t.1.2 ++ (.int .i64 t.2.1.1 :: (.sl Y0 t.2.1.2 :: (cellsX T69 t.2.2))))))), (9, .box 132 [.int .u8 v0_3, .int .u8 v0_4]), (18, .arr 132 (.pair (.int .u8) (.int .u8)) st2.1), (19, .arr 27 (.sl (.int .i64)) st2.2.1), (20, .map true false (.pair (.int .u8) (.int .u8)) .bool st2.2.2.1)] ?_
                  obtain ⟨c35, h⟩ := ck_some.1 h
                  obtain ⟨c36, h⟩ := ck_some.1 h
                  refine AO.lookupG mapty_134 (by decide) (.inr ⟨_, _, _, rfl, rfl, rfl⟩) rfl rfl rfl (l := [.int .u8 v0_3, .int .u8 v0_4]) (by (simp only [go_sem, hb13, hb20, hb32]) <;> (with_reducible and_intros) <;> first | assumption | rfl | omega | (unfold maxLen; omega)) (by first | rfl | (simp only [go_sem, hb13, hb20, hb32]) <;> (with_reducible and_intros) <;> first | assumption | rfl | omega | (unfold maxLen; omega)) (by (simp only [go_sem, hb13, hb20, hb32]) <;> (with_reducible and_intros) <;> first | assumption | rfl | omega | (unfold maxLen; omega)) ?_
                  refine zT [(1, .bp 1 0), (4, .own 18), (5, .own 19), (6, .own 20), (7, .int .i64 st1.2.2.2), (8, .int .i64 st2.2.2.2), (9, .bp 9 0), (57, .bool false), (60, .bool (mget false st2.2.2.1 (v0_3, v0_4)))] [(1, .box 90 (.int .i64 t.1.1.1 :: (.sl Y0 t.1.1.2 :: (cellsX T69 t.1.2 ++ (.int .i64 t.2.1.1 :: (.sl Y0 t.2.1.2 :: (cellsX T69 t.2.2))))))), (9, .box 132 [.int .u8 v0_3, .int .u8 v0_4]), (18, .arr 132 (.pair (.int .u8) (.int .u8)) st2.1), (19, .arr 27 (.sl (.int .i64)) st2.2.1), (20, .map true false (.pair (.int .u8) (.int .u8)) .bool st2.2.2.1)] gt ?_
                  refine zB [(1, .bp 1 0), (4, .own 18), (5, .own 19), (6, .own 20), (7, .int .i64 st1.2.2.2), (8, .int .i64 st2.2.2.2), (9, .bp 9 0), (61, .bool (mget false st2.2.2.1 (v0_3, v0_4)))] [(1, .box 90 (.int .i64 t.1.1.1 :: (.sl Y0 t.1.1.2 :: (cellsX T69 t.1.2 ++ (.int .i64 t.2.1.1 :: (.sl Y0 t.2.1.2 :: (cellsX T69 t.2.2))))))), (9, .box 132 [.int .u8 v0_3, .int .u8 v0_4]), (18, .arr 132 (.pair (.int .u8) (.int .u8)) st2.1), (19, .arr 27 (.sl (.int .i64)) st2.2.1), (20, .map true false (.pair (.int .u8) (.int .u8)) .bool st2.2.2.1)] ?_
                  refine zQ h (fun hb37 h => ?_) (fun hb37 h => ?_)
                  ·refine AW.exit ?_
                   refine athen_e ?_
                   refine ablock_s ?_
                   refine athen_n ?_
                   refine AW.ops ?_
                   obtain ⟨c38, h⟩ := ck_some.1 h
                   refine zA [(1, .bp 1 0), (4, .own 18), (5, .own 19), (6, .own 20), (7, .int .i64 st1.2.2.2), (8, .int .i64 (st2.2.2.2 + 1))] [(1, .box 90 (.int .i64 t.1.1.1 :: (.sl Y0 t.1.1.2 :: (cellsX T69 t.1.2 ++ (.int .i64 t.2.1.1 :: (.sl Y0 t.2.1.2 :: (cellsX T69 t.2.2))))))), (18, .arr 132 (.pair (.int .u8) (.int .u8)) st2.1), (19, .arr 27 (.sl (.int .i64)) st2.2.1), (20, .map true false (.pair (.int .u8) (.int .u8)) .bool st2.2.2.1)] ?_
                   obtain rfl := Option.some.inj h
                   exact ⟨_, rfl, zL [] [] []⟩
                  ·refine zk ?_
                   refine zo ?_
                   obtain ⟨c39, h⟩ := ck_some.1 h
                   obtain ⟨c40, h⟩ := ck_some.1 h
                   refine zS 5 [(1, .bp 1 0), (4, .own 18), (5, .own 19), (6, .own 20), (7, .int .i64 st1.2.2.2), (8, .int .i64 st2.2.2.2), (9, .bp 9 0), (65, .sl (.int .i64) (st2.2.1.getD st1.2.2.2.toNat [])), (66, .int .i64 st2.2.2.2)] [(1, .box 90 (.int .i64 t.1.1.1 :: (.sl Y0 t.1.1.2 :: (cellsX T69 t.1.2 ++ (.int .i64 t.2.1.1 :: (.sl Y0 t.2.1.2 :: (cellsX T69 t.2.2))))))), (9, .box 132 [.int .u8 v0_3, .int .u8 v0_4]), (18, .arr 132 (.pair (.int .u8) (.int .u8)) st2.1), (19, .arr 27 (.sl (.int .i64)) st2.2.1), (20, .map true false (.pair (.int .u8) (.int .u8)) .bool st2.2.2.1)] ?_
                   obtain ⟨v0_5, hv41, h⟩ := Option.bind_eq_some_iff.1 h
                   refine zC [] [] (hc_refine_longer (st2.2.1.getD st1.2.2.2.toNat []) st2.2.2.2 hv41) [(1, .bp 1 0), (4, .own 18), (5, .own 19), (6, .own 20), (7, .int .i64 st1.2.2.2), (8, .int .i64 st2.2.2.2), (9, .bp 9 0), (67, .own 77000)] [(1, .box 90 (.int .i64 t.1.1.1 :: (.sl Y0 t.1.1.2 :: (cellsX T69 t.1.2 ++ (.int .i64 t.2.1.1 :: (.sl Y0 t.2.1.2 :: (cellsX T69 t.2.2))))))), (9, .box 132 [.int .u8 v0_3, .int .u8 v0_4]), (18, .arr 132 (.pair (.int .u8) (.int .u8)) st2.1), (19, .arr 27 (.sl (.int .i64)) st2.2.1), (20, .map true false (.pair (.int .u8) (.int .u8)) .bool st2.2.2.1), (77000, .arr 3 (.int .i64) v0_5)] ?_
                   refine zB [(1, .bp 1 0), (4, .own 18), (5, .own 19), (6, .own 20), (7, .int .i64 st1.2.2.2), (8, .int .i64 st2.2.2.2), (9, .bp 9 0), (10, .own 77000)] [(1, .box 90 (.int .i64 t.1.1.1 :: (.sl Y0 t.1.1.2 :: (cellsX T69 t.1.2 ++ (.int .i64 t.2.1.1 :: (.sl Y0 t.2.1.2 :: (cellsX T69 t.2.2))))))), (9, .box 132 [.int .u8 v0_3, .int .u8 v0_4]), (18, .arr 132 (.pair (.int .u8) (.int .u8)) st2.1), (19, .arr 27 (.sl (.int .i64)) st2.2.1), (20, .map true false (.pair (.int .u8) (.int .u8)) .bool st2.2.2.1), (77000, .arr 3 (.int .i64) v0_5)] ?_
                   refine AW.seq ?_
                   refine zo ?_
                   refine zB [(1, .bp 1 0), (4, .own 18), (5, .own 19), (6, .own 20), (7, .int .i64 st1.2.2.2), (8, .int .i64 st2.2.2.2), (9, .bp 9 0), (10, .own 77000), (70, .bool (decide (v0_4 = 0)))] [(1, .box 90 (.int .i64 t.1.1.1 :: (.sl Y0 t.1.1.2 :: (cellsX T69 t.1.2 ++ (.int .i64 t.2.1.1 :: (.sl Y0 t.2.1.2 :: (cellsX T69 t.2.2))))))), (9, .box 132 [.int .u8 v0_3, .int .u8 v0_4]), (18, .arr 132 (.pair (.int .u8) (.int .u8)) st2.1), (19, .arr 27 (.sl (.int .i64)) st2.2.1), (20, .map true false (.pair (.int .u8) (.int .u8)) .bool st2.2.2.1), (77000, .arr 3 (.int .i64) v0_5)] ?_
                   refine zQ h (fun hb42 h => ?_) (fun hb42 h => ?_)
                   ·refine zo ?_
                    refine zB [(2, .own 77000), (3, .bool true)] [(77000, .arr 3 (.int .i64) v0_5)] ?_
                    refine zr ?_
                    refine ablock_r ?_
                    refine athen_r ?_
                    obtain rfl := Option.some.inj h
                    rw [← hd17 _ rfl] at ho16
                    have h := ho16
                    try simp only at h
                    refine athen_r ?_
                    refine ablock_r ?_
                    refine ablock_r ?_
                    refine athen_r ?_
                    obtain rfl := Option.some.inj h
                    rw [← hd10 _ rfl] at ho9
                    have h := ho9
                    try simp only at h
                    refine athen_r ?_
                    refine ablock_r ?_
                    refine athen_r ?_
                    obtain rfl := Option.some.inj h
                    exact zR [] [] [(2000, 77000)]
                   ·refine zk ?_
                    refine zo ?_
                    refine zS 2 [(1, .bp 1 0), (4, .own 18), (5, .own 19), (6, .own 20), (7, .int .i64 st1.2.2.2), (8, .int .i64 st2.2.2.2), (9, .bp 9 0), (10, .own 77000), (72, .own 20), (73, .agg [.int .u8 v0_3, .int .u8 v0_4])] [(1, .box 90 (.int .i64 t.1.1.1 :: (.sl Y0 t.1.1.2 :: (cellsX T69 t.1.2 ++ (.int .i64 t.2.1.1 :: (.sl Y0 t.2.1.2 :: (cellsX T69 t.2.2))))))), (9, .box 132 [.int .u8 v0_3, .int .u8 v0_4]), (18, .arr 132 (.pair (.int .u8) (.int .u8)) st2.1), (19, .arr 27 (.sl (.int .i64)) st2.2.1), (20, .map true false (.pair (.int .u8) (.int .u8)) .bool st2.2.2.1), (77000, .arr 3 (.int .i64) v0_5)] ?_
                    obtain ⟨c43, h⟩ := ck_some.1 h
                    obtain ⟨c44, h⟩ := ck_some.1 h
                    refine AO.mapPut mapty_134 (by decide) rfl (.inl rfl) rfl rfl (l := [.int .u8 v0_3, .int .u8 v0_4]) (by (simp only [go_sem, hb13, hb20, hb32, hb37, hb42]) <;> (with_reducible and_intros) <;> first | assumption | rfl | omega | (unfold maxLen; omega)) (by first | rfl | (simp only [go_sem, hb13, hb20, hb32, hb37, hb42]) <;> (with_reducible and_intros) <;> first | assumption | rfl | omega | (unfold maxLen; omega)) (by (simp only [go_sem, hb13, hb20, hb32, hb37, hb42]) <;> (with_reducible and_intros) <;> first | assumption | rfl | omega | (unfold maxLen; omega)) (lv := [.bool true]) (by (simp only [go_sem, hb13, hb20, hb32, hb37, hb42]) <;> (with_reducible and_intros) <;> first | assumption | rfl | omega | (unfold maxLen; omega)) (by first | rfl | (simp only [go_sem, hb13, hb20, hb32, hb37, hb42]) <;> (with_reducible and_intros) <;> first | assumption | rfl | omega | (unfold maxLen; omega)) ?_
                    refine zT [(1, .bp 1 0), (4, .own 18), (5, .own 19), (6, .own 20), (7, .int .i64 st1.2.2.2), (8, .int .i64 st2.2.2.2), (9, .bp 9 0), (10, .own 77000)] [(1, .box 90 (.int .i64 t.1.1.1 :: (.sl Y0 t.1.1.2 :: (cellsX T69 t.1.2 ++ (.int .i64 t.2.1.1 :: (.sl Y0 t.2.1.2 :: (cellsX T69 t.2.2))))))), (9, .box 132 [.int .u8 v0_3, .int .u8 v0_4]), (18, .arr 132 (.pair (.int .u8) (.int .u8)) st2.1), (19, .arr 27 (.sl (.int .i64)) st2.2.1), (20, .map true false (.pair (.int .u8) (.int .u8)) .bool (mput st2.2.2.1 (v0_3, v0_4) true)), (77000, .arr 3 (.int .i64) v0_5)] gt ?_
                    refine zB [(1, .bp 1 0), (4, .own 18), (5, .own 19), (6, .own 20), (7, .int .i64 st1.2.2.2), (8, .int .i64 st2.2.2.2), (9, .bp 9 0), (10, .own 77000)] [(1, .box 90 (.int .i64 t.1.1.1 :: (.sl Y0 t.1.1.2 :: (cellsX T69 t.1.2 ++ (.int .i64 t.2.1.1 :: (.sl Y0 t.2.1.2 :: (cellsX T69 t.2.2))))))), (9, .box 132 [.int .u8 v0_3, .int .u8 v0_4]), (18, .arr 132 (.pair (.int .u8) (.int .u8)) st2.1), (19, .arr 27 (.sl (.int .i64)) st2.2.1), (20, .map true false (.pair (.int .u8) (.int .u8)) .bool (mput st2.2.2.1 (v0_3, v0_4) true)), (77000, .arr 3 (.int .i64) v0_5)] ?_
                    refine zo ?_
                    obtain ⟨c45, h⟩ := ck_some.1 h
                    refine zB [(1, .bp 1 0), (4, .own 77), (5, .own 19), (6, .own 20), (7, .int .i64 st1.2.2.2), (8, .int .i64 st2.2.2.2), (10, .own 77000)] [(1, .box 90 (.int .i64 t.1.1.1 :: (.sl Y0 t.1.1.2 :: (cellsX T69 t.1.2 ++ (.int .i64 t.2.1.1 :: (.sl Y0 t.2.1.2 :: (cellsX T69 t.2.2))))))), (19, .arr 27 (.sl (.int .i64)) st2.2.1), (20, .map true false (.pair (.int .u8) (.int .u8)) .bool (mput st2.2.2.1 (v0_3, v0_4) true)), (77, .arr 132 (.pair (.int .u8) (.int .u8)) (st2.1 ++ [(v0_3, v0_4)])), (77000, .arr 3 (.int .i64) v0_5)] ?_
                    refine AW.ops ?_
                    obtain ⟨c46, h⟩ := ck_some.1 h
                    refine zA [(1, .bp 1 0), (4, .own 77), (5, .own 81), (6, .own 20), (7, .int .i64 st1.2.2.2), (8, .int .i64 st2.2.2.2)] [(1, .box 90 (.int .i64 t.1.1.1 :: (.sl Y0 t.1.1.2 :: (cellsX T69 t.1.2 ++ (.int .i64 t.2.1.1 :: (.sl Y0 t.2.1.2 :: (cellsX T69 t.2.2))))))), (20, .map true false (.pair (.int .u8) (.int .u8)) .bool (mput st2.2.2.1 (v0_3, v0_4) true)), (77, .arr 132 (.pair (.int .u8) (.int .u8)) (st2.1 ++ [(v0_3, v0_4)])), (81, .arr 27 (.sl (.int .i64)) (st2.2.1 ++ [v0_5]))] ?_
                    refine ablock_n ?_
                    refine athen_n ?_
                    refine AW.ops ?_
                    obtain ⟨c47, h⟩ := ck_some.1 h
                    refine zA [(1, .bp 1 0), (4, .own 77), (5, .own 81), (6, .own 20), (7, .int .i64 st1.2.2.2), (8, .int .i64 (st2.2.2.2 + 1))] [(1, .box 90 (.int .i64 t.1.1.1 :: (.sl Y0 t.1.1.2 :: (cellsX T69 t.1.2 ++ (.int .i64 t.2.1.1 :: (.sl Y0 t.2.1.2 :: (cellsX T69 t.2.2))))))), (20, .map true false (.pair (.int .u8) (.int .u8)) .bool (mput st2.2.2.1 (v0_3, v0_4) true)), (77, .arr 132 (.pair (.int .u8) (.int .u8)) (st2.1 ++ [(v0_3, v0_4)])), (81, .arr 27 (.sl (.int .i64)) (st2.2.1 ++ [v0_5]))] ?_
                    obtain rfl := Option.some.inj h
                    exact ⟨_, rfl, zL [] [] [(18, 77), (19, 81)]⟩
          ·refine AW.exit ?_
           refine athen_e ?_
           obtain rfl := Option.some.inj h
           rw [← hd17 _ rfl] at ho16
           have h := ho16
           try simp only at h
           refine athen_e ?_
           refine ablock_s ?_
           refine ablock_n ?_
           refine athen_n ?_
           exact AW.weaken (zL [] [] []) (hk_refine_two_shows_k2 _ h)
       ·refine AW.exit ?_
        refine athen_e ?_
        obtain rfl := Option.some.inj h
        rw [← hd10 _ rfl] at ho9
        have h := ho9
        try simp only at h
        refine athen_e ?_
        refine ablock_s ?_
        refine athen_n ?_
        exact AW.weaken (zL [] [] []) (hk_refine_two_shows_k1 () h)

theorem hc_refine_Shows (c : Int × (List (Int × Int × Int))) (a : Int × (List (Int × Int × Int))) {r : (List Int) × Int} (h : refine_Shows c a = some r) : HC Try.prog 41 [] [.agg [.int .i64 c.1, .sl Y0 c.2], .agg [.int .i64 a.1, .sl Y0 a.2]] [(2000, .arr 3 (.int .i64) r.1)] (.tup [.own 2000, .int .i64 r.2]) := by
 unfold refine_Shows at h
 refine zH Try.func41 [.tmp 4, .tmp 5] 27 ?_
 refine zo ?_
 refine zB [(2, .bp 2 0), (3, .bp 3 0)] [(2, .box 24 [.int .i64 c.1, .sl Y0 c.2]), (3, .box 24 [.int .i64 a.1, .sl Y0 a.2])] ?_
 refine zo ?_
 refine zS 2 [(11, .agg [.int .i64 c.1, .sl Y0 c.2]), (12, .agg [.int .i64 a.1, .sl Y0 a.2])] [] ?_
 obtain ⟨v0, hv1, h⟩ := Option.bind_eq_some_iff.1 h
 refine zC [] [] (hc_refine_twoOf c a hv1) [(13, .tup [.agg (.int .i64 v0.1 :: (.sl Y0 v0.2.1 :: (cellsX T69 v0.2.2.1 ++ (.int .i64 v0.2.2.2.1 :: (.sl Y0 v0.2.2.2.2.1 :: (cellsX T69 v0.2.2.2.2.2.1)))))), .int .i64 v0.2.2.2.2.2.2])] [] ?_
 refine zS 5 [(6, .bp 6 0), (15, .int .i64 v0.2.2.2.2.2.2)] [(6, .box 90 (.int .i64 v0.1 :: (.sl Y0 v0.2.1 :: (cellsX T69 v0.2.2.1 ++ (.int .i64 v0.2.2.2.1 :: (.sl Y0 v0.2.2.2.2.1 :: (cellsX T69 v0.2.2.2.2.2.1)))))))] ?_
 refine zB [(6, .bp 6 0), (7, .int .i64 v0.2.2.2.2.2.2)] [(6, .box 90 (.int .i64 v0.1 :: (.sl Y0 v0.2.1 :: (cellsX T69 v0.2.2.1 ++ (.int .i64 v0.2.2.2.1 :: (.sl Y0 v0.2.2.2.2.1 :: (cellsX T69 v0.2.2.2.2.2.1)))))))] ?_
 refine AW.seq ?_
 refine zo ?_
 refine zB [(6, .bp 6 0), (7, .int .i64 v0.2.2.2.2.2.2), (17, .bool (!(decide (v0.2.2.2.2.2.2 = 0))))] [(6, .box 90 (.int .i64 v0.1 :: (.sl Y0 v0.2.1 :: (cellsX T69 v0.2.2.1 ++ (.int .i64 v0.2.2.2.1 :: (.sl Y0 v0.2.2.2.2.1 :: (cellsX T69 v0.2.2.2.2.2.1)))))))] ?_
 refine zQ h (fun hb2 h => ?_) (fun hb2 h => ?_)
 ·refine zo ?_
  refine zB [(4, .cv (.slice none 0 0)), (5, .int .i64 v0.2.2.2.2.2.2)] [] ?_
  refine zr ?_
  obtain rfl := Option.some.inj h
  exact zR [] [2000] []
 ·refine zk ?_
  refine zo ?_
  refine zS 1 [(20, .agg (.int .i64 v0.1 :: (.sl Y0 v0.2.1 :: (cellsX T69 v0.2.2.1 ++ (.int .i64 v0.2.2.2.1 :: (.sl Y0 v0.2.2.2.2.1 :: (cellsX T69 v0.2.2.2.2.2.1)))))))] [] ?_
  obtain ⟨v0_2, hv3, h⟩ := Option.bind_eq_some_iff.1 h
  refine zC [] [] (hc_refine_two_shows (((v0.1, v0.2.1), v0.2.2.1), (v0.2.2.2.1, v0.2.2.2.2.1), v0.2.2.2.2.2.1) hv3) [(21, .tup [.own 31000, .bool v0_2.2])] [(31000, .arr 3 (.int .i64) v0_2.1)] ?_
  refine zB [(8, .own 31000), (9, .bool v0_2.2)] [(31000, .arr 3 (.int .i64) v0_2.1)] ?_
  refine AW.seq ?_
  refine zo ?_
  refine zB [(8, .own 31000), (25, .bool (!v0_2.2))] [(31000, .arr 3 (.int .i64) v0_2.1)] ?_
  refine zQ h (fun hb4 h => ?_) (fun hb4 h => ?_)
  ·refine zo ?_
   refine zB [(4, .cv (.slice none 0 0)), (5, .int .i64 5)] [] ?_
   refine zr ?_
   obtain rfl := Option.some.inj h
   exact zR [] [2000] []
  ·refine zk ?_
   refine zo ?_
   refine zB [(4, .own 31000), (5, .int .i64 0)] [(31000, .arr 3 (.int .i64) v0_2.1)] ?_
   refine AW.ret ?_
   obtain rfl := Option.some.inj h
   exact zR [] [] [(2000, 31000)]

theorem hc_linealref05_SameInts (a : List Int) (b : List Int) {r : Bool} (h : linealref05_SameInts a b = some r) : HC Try.prog 22 [] [.sl (.int .i64) a, .sl (.int .i64) b] [] (.bool r) := by
 unfold linealref05_SameInts at h
 refine zH Try.func22 [.tmp 4] 26 ?_
 refine zo ?_
 refine zB [(0, .sl (.int .i64) a), (1, .sl (.int .i64) b)] [] ?_
 refine AW.seq ?_
 refine zo ?_
 refine zB [(0, .sl (.int .i64) a), (1, .sl (.int .i64) b), (10, .bool (!(decide ((a.length : Int) = (b.length : Int)))))] [] ?_
 refine zQ h (fun hb1 h => ?_) (fun hb1 h => ?_)
 ·refine zo ?_
  refine zB [(4, .bool false)] [] ?_
  refine zr ?_
  obtain rfl := Option.some.inj h
  exact zR [] [] []
 ·refine zk ?_
  refine AW.have1 (fun _ : Unit => linealref05_SameInts_k1 = some r) (fun _ => ⟨fr [], hpGet [], gt⟩) (fun _ h => ?_) (fun hk_linealref05_SameInts_k1 => ?_)
  ·as_aux_lemma =>
    unfold linealref05_SameInts_k1 at h
    refine zo ?_
    refine zB [(4, .bool true)] [] ?_
    refine AW.ret ?_
    obtain rfl := Option.some.inj h
    exact zR [] [] []
  ·refine AW.seq ?_
   refine zo ?_
   refine zB [(0, .sl (.int .i64) a), (1, .sl (.int .i64) b), (12, .int .i64 (a.length : Int)), (13, .int .i64 0)] [] ?_
   refine AW.block ?_
   obtain ⟨rv6, hw2, ho3⟩ := Option.bind_eq_some_iff.1 h
   refine AW.loopO (linealref05_SameInts_b1 a b) (fun st1 => ⟨fr [(0, .sl (.int .i64) a), (1, .sl (.int .i64) b), (12, .int .i64 (a.length : Int)), (13, .int .i64 st1)], hpGet [], gt⟩) 0 hw2 (zL [] [] []) ?_
   as_aux_lemma =>
    intro st1 x5 h hd4
    unfold linealref05_SameInts_b1 at h
    refine zo ?_
    refine zB [(0, .sl (.int .i64) a), (1, .sl (.int .i64) b), (12, .int .i64 (a.length : Int)), (13, .int .i64 st1), (14, .bool (decide (st1 < (a.length : Int))))] [] ?_
    refine AW.seq ?_
    refine zQ h (fun hb7 h => ?_) (fun hb7 h => ?_)
    ·refine zk ?_
     refine AW.seq ?_
     refine AW.block ?_
     refine zo ?_
     refine zB [(0, .sl (.int .i64) a), (1, .sl (.int .i64) b), (5, .int .i64 st1), (12, .int .i64 (a.length : Int)), (13, .int .i64 st1)] [] ?_
     refine AW.seq ?_
     refine AW.draw tab_ok mixed_ok [] [] (by decide) (lex_fast (by kernel_rfl)) ?_
     as_aux_lemma =>
      obtain ⟨c9, h⟩ := ck_some.1 h
      obtain ⟨c10, h⟩ := ck_some.1 h
      refine adops_cut 6 (fun K' hK8 => ?_)
      try dsimp only [List.drop_succ_cons, List.drop_zero, List.take_succ_cons, List.take_zero]
      simp only [go_sem, hb1, hb7]
      repeat with_reducible refine zN ?_
      refine hK8 _ ?_
      as_aux_lemma =>
       obtain ⟨c12, h⟩ := ck_some.1 h
       obtain ⟨c13, h⟩ := ck_some.1 h
       refine adops_cut 3 (fun K' hK11 => ?_)
       try dsimp only [List.drop_succ_cons, List.drop_zero, List.take_succ_cons, List.take_zero]
       simp only [go_sem, hb1, hb7]
       repeat with_reducible refine zN ?_
       refine hK11 _ ?_
       refine adops_nil ?_
       refine athen_n ?_
       refine zV [(0, .sl (.int .i64) a), (1, .sl (.int .i64) b), (12, .int .i64 (a.length : Int)), (13, .int .i64 st1), (24, .bool (!(decide ((a.getD st1.toNat 0) = (b.getD st1.toNat 0)))))] [] gt ?_
       as_aux_lemma =>
        refine zQ h (fun hb14 h => ?_) (fun hb14 h => ?_)
        ·refine zo ?_
         refine zB [(4, .bool false)] [] ?_
         refine AW.ret ?_
         refine ablock_r ?_
         refine athen_r ?_
         obtain rfl := Option.some.inj h
         rw [← hd4 _ rfl] at ho3
         have h := ho3
         try simp only at h
         refine athen_r ?_
         refine ablock_r ?_
         refine athen_r ?_
         obtain rfl := Option.some.inj h
         exact zR [] [] []
        ·refine zm ?_
         refine athen_n ?_
         refine AW.ops ?_
         obtain ⟨c15, h⟩ := ck_some.1 h
         refine zA [(0, .sl (.int .i64) a), (1, .sl (.int .i64) b), (12, .int .i64 (a.length : Int)), (13, .int .i64 (st1 + 1))] [] ?_
         obtain rfl := Option.some.inj h
         exact ⟨_, rfl, zL [] [] []⟩
    ·refine AW.exit ?_
     refine athen_e ?_
     obtain rfl := Option.some.inj h
     rw [← hd4 _ rfl] at ho3
     have h := ho3
     try simp only at h
     refine athen_e ?_
     refine ablock_s ?_
     refine athen_n ?_
     exact AW.weaken (zL [] [] []) (hk_linealref05_SameInts_k1 () h)

theorem hc_lineallaw05_Awake {r : Bool} (h : lineallaw05_Awake = some r) : HC Try.prog 17 [] [] [] (.bool r) := by
 unfold lineallaw05_Awake at h
 refine zH Try.func17 [.tmp 0] 27 ?_
 refine zo ?_
 refine zB [] [] ?_
 refine zo ?_
 refine zS 5 [(1, .bp 1 0), (8, .agg [.int .i64 2, .own 7])] [(1, .box 24 [.int .i64 0, .cv (.slice none 0 0)]), (7, .arr 66 Y0 [(0, 1, 1), (1, 2, 0)])] ?_
 refine zB [(1, .bp 1 0)] [(1, .box 24 [.int .i64 2, .own 7]), (7, .arr 66 Y0 [(0, 1, 1), (1, 2, 0)])] ?_
 refine zo ?_
 refine zS 5 [(1, .bp 1 0), (13, .agg [.int .i64 2, .own 12])] [(1, .box 24 [.int .i64 2, .own 7]), (7, .arr 66 Y0 [(0, 1, 1), (1, 2, 0)]), (12, .arr 66 Y0 [(0, 1, 1), (1, 2, 0), (1, 3, 0)])] ?_
 refine zB [(1, .bp 1 0), (2, .bp 2 0)] [(1, .box 24 [.int .i64 2, .own 7]), (2, .box 24 [.int .i64 2, .own 12]), (7, .arr 66 Y0 [(0, 1, 1), (1, 2, 0)]), (12, .arr 66 Y0 [(0, 1, 1), (1, 2, 0), (1, 3, 0)])] ?_
 refine zo ?_
 refine zS 2 [(15, .agg [.int .i64 2, .own 12]), (16, .agg [.int .i64 2, .own 7])] [(7, .arr 66 Y0 [(0, 1, 1), (1, 2, 0)]), (12, .arr 66 Y0 [(0, 1, 1), (1, 2, 0), (1, 3, 0)])] ?_
 obtain ⟨v0, hv1, h⟩ := Option.bind_eq_some_iff.1 h
 refine zC [7, 12] [] (hc_refine_Shows (2, [(0, 1, 1), (1, 2, 0), (1, 3, 0)]) (2, [(0, 1, 1), (1, 2, 0)]) hv1) [(17, .tup [.own 27000, .int .i64 v0.2])] [(27000, .arr 3 (.int .i64) v0.1)] ?_
 refine zB [(3, .own 27000), (4, .int .i64 v0.2)] [(27000, .arr 3 (.int .i64) v0.1)] ?_
 refine zo ?_
 refine zS 3 [(3, .own 27000), (22, .bool (decide (v0.2 = 0)))] [(27000, .arr 3 (.int .i64) v0.1)] ?_
 rcases zI h with ⟨hb2, h⟩ | ⟨hb2, h⟩
 ·refine zS 2 [(22, .bool true), (23, .own 27000), (24, .own 24)] [(24, .arr 3 (.int .i64) [1, 3]), (27000, .arr 3 (.int .i64) v0.1)] ?_
  obtain ⟨v0_2, hv3, h⟩ := Option.bind_eq_some_iff.1 h
  refine zG [24, 27000] [] (hc_linealref05_SameInts v0.1 [1, 3] hv3) [(22, .bool true), (25, .bool v0_2)] [] ?_
  refine zB [(0, .bool v0_2)] [] ?_
  refine AW.ret ?_
  obtain rfl := Option.some.inj h
  exact zR [] [] []
 ·refine zB [(0, .bool false)] [] ?_
  refine AW.ret ?_
  obtain rfl := Option.some.inj h
  exact zR [] [] []

theorem hc_linealref05_IsState (s : Int × (List (Int × Int × Int))) (n : Int) {r : Bool} (h : linealref05_IsState s n = some r) : HC Try.prog 62 [] [.agg [.int .i64 s.1, .sl Y0 s.2], .int .i64 n] [] (.bool r) := by
 unfold linealref05_IsState at h
 refine zH Try.func62 [.tmp 4] 13 ?_
 refine zo ?_
 refine zB [(1, .int .i64 n), (2, .bp 2 0)] [(2, .box 24 [.int .i64 s.1, .sl Y0 s.2])] ?_
 refine zo ?_
 refine zS 3 [(1, .int .i64 n), (2, .bp 2 0), (7, .bool (decide (0 ≤ n)))] [(2, .box 24 [.int .i64 s.1, .sl Y0 s.2])] ?_
 rcases zI h with ⟨hb1, h⟩ | ⟨hb1, h⟩
 ·refine zS 5 [(12, .bool (decide (n < s.1)))] [] ?_
  refine zB [(4, .bool (decide (n < s.1)))] [] ?_
  refine AW.ret ?_
  obtain rfl := Option.some.inj h
  exact zR [] [] []
 ·refine zS 4 [(7, .bool false), (11, .cv (undef))] [] ?_
  refine zB [(4, .bool false)] [] ?_
  refine AW.ret ?_
  obtain rfl := Option.some.inj h
  exact zR [] [] []

end Go.Proofs.Ytifleoceebaooaa
