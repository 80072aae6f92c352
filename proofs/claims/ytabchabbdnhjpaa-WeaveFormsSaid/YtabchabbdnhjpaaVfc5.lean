/-
  Made by wip/tool/dc.py out of the print of the program: contracts.
-/
import Derived.Test.YtabchabbdnhjpaaVp
import Derived.Test.YtabchabbdnhjpaaSh6
import Derived.Test.YtabchabbdnhjpaaAvd
import Derived.Test.YtabchabbdnhjpaaVfc3
import Derived.Test.YtabchabbdnhjpaaVfc4
namespace Go.Proofs.Ytabchabbdnhjpaa
open Go.RowKit

set_option linter.unusedSimpArgs false
set_option linter.unusedVariables false
set_option linter.constructorNameAsVariable false

set_option maxRecDepth 100000
set_option maxHeartbeats 2000000

theorem hc_weave_ties_first (t : (El T53)) (w : List Int) {r : (List Int)} (h : weave_ties_first t w = some r) : HC Try.prog 40 [] [.agg (cellsX T53 t), .sl (.int .i64) w] [] (.sl (.int .i64) r) := by
 unfold weave_ties_first at h
 refine zH Try.func40 [.cell 4 25] 11 ?_
 refine zo ?_
 refine zB [(1, .sl (.int .i64) w), (2, .bp 2 0), (4, .bp 4 0)] [(2, .box 53 (cellsX T53 t)), (4, .box 25 [.cv (.slice none 0 0)])] ?_
 refine AW.have1 (fun _ : Unit => weave_ties_first_k1 = some r) (fun _ => ⟨fr [(4, .bp 4 0)], hpGet [(4, .box 25 [.cv (.slice none 0 0)])], gt⟩) (fun _ h => ?_) (fun hk_weave_ties_first_k1 => ?_)
 ·as_aux_lemma =>
   unfold weave_ties_first_k1 at h
   refine zo ?_
   refine zB [(4, .bp 4 0)] [(4, .box 25 [.cv (.slice none 0 0)])] ?_
   refine AW.ret ?_
   obtain rfl := Option.some.inj h
   exact zR [] [] []
 ·refine AW.seq ?_
  refine zo ?_
  refine zS 2 [(4, .bp 4 0), (6, .agg (cellsX T53 t)), (7, .sl (.int .i64) w)] [(4, .box 25 [.cv (.slice none 0 0)])] ?_
  obtain ⟨v0, hv1, h⟩ := Option.bind_eq_some_iff.1 h
  refine zC [] [] (hc_weave_ties_class t w hv1) [(4, .bp 4 0), (8, .fn (.func 67) [] [.bp 18000 0, .bp 18001 0])] [(4, .box 25 [.cv (.slice none 0 0)]), (18000, .box 25 [.sl (.int .i64) w]), (18001, .box 53 (cellsX T53 t))] ?_
  refine zB [(4, .bp 4 0), (8, .fn (.func 67) [] [.bp 18000 0, .bp 18001 0])] [(4, .box 25 [.cv (.slice none 0 0)]), (18000, .box 25 [.sl (.int .i64) w]), (18001, .box 53 (cellsX T53 t))] ?_
  refine AW.block ?_
  obtain ⟨x2, hx3, h⟩ := Option.bind_eq_some_iff.1 h
  refine AW.weaken (s' := ⟨fr [(4, .bp 4 0), (8, .fn (.func 67) [] [.bp 18000 0, .bp 18001 0])], hpGet ([(18000, .box 25 [.sl (.int .i64) w]), (18001, .box 53 (cellsX T53 t))] ++ [(4, .box 25 [.cv (.slice none 0 0)])]), gt⟩) (zL [] [] []) ?_
  refine AW.rangeF (R := (List Int)) (l0 := [(4, .bp 4 0)]) (hI := [(18000, .box 25 [.sl (.int .i64) w]), (18001, .box 53 (cellsX T53 t))]) (h0 := fun (st1 : Unit) => [(4, .box 25 [.cv (.slice none 0 0)])]) (gg := fun (st1 : Unit) => gt) (hx0 := (fun (r1 : (List Int)) => [(4, .box 25 [.sl (.int .i64) r1])])) (gx := (fun (r1 : (List Int)) => gt)) (ex := (fun (r1 : (List Int)) => Exit.ret)) () [(18000, 1000), (18001, 1001)] [(1000, 18000), (1001, 18001)] [(4, 1900)] [(1900, 4)] (by decide) rfl (by first | exact (ic_weave_ties_class_1 fuel w t (weave_ties_first_y1) () hx3) | simpa only [go_sem] using (ic_weave_ties_class_1 fuel w t (weave_ties_first_y1) () hx3)) (by (simp only [go_sem]) <;> (with_reducible and_intros) <;> first | assumption | rfl | omega | (unfold maxLen; omega)) rfl rfl rfl (fun _ => rfl) rfl (fun _ => rfl) rfl (fun _ => rfl) (fun _ => rfl) (fun _ => rfl) (fun _ => rfl) rfl (fun _ _ => by first | rfl | (exact (hΓ _).trans (hΓ _).symm) | (exact (hΓx _).trans (hΓ _).symm)) (fun _ _ => by first | rfl | (exact (hΓ _).trans (hΓ _).symm) | (exact (hΓx _).trans (hΓ _).symm)) ?_ ?_
  ·intro lpy1 y1 st1 x4 h
   unfold weave_ties_first_y1 at h
   refine zV [(4, .bp 1900 0), (9, .sl (.int .i64) y1)] [(1900, .box 25 [.cv (.slice none 0 0)])] gt ?_
   refine AW.ops ?_
   refine zA [(4, .bp 1900 0), (5, .sl (.int .i64) y1)] [(1900, .box 25 [.cv (.slice none 0 0)])] ?_
   refine And.intro rfl ?_
   refine AW.block ?_
   refine zo ?_
   refine zB [(4, .bp 1900 0)] [(1900, .box 25 [.sl (.int .i64) y1])] ?_
   refine AW.ret ?_
   refine ablock_r ?_
   obtain rfl := Option.some.inj h
   exact rpost_ret rfl rfl [] [] [] rfl (by (simp only [go_sem]) <;> (with_reducible and_intros) <;> first | assumption | rfl | omega | (unfold maxLen; omega))
  ·cases x2 with
   | inl st1_2 =>
    try simp only at h
    refine ablock_n ?_
    refine athen_n ?_
    exact AW.weaken (zL [] [] []) (hk_weave_ties_first_k1 () h)
   | inr r1 =>
    try simp only at h
    refine ablock_r ?_
    refine athen_r ?_
    obtain rfl := Option.some.inj h
    exact zR [] [] []

theorem hc_linealref03_asked (l : Int × (List (Int × Int))) (w : List Int) (v0 : List Int) {r : Int} (h : linealref03_asked l w v0 = some r) : HC Try.prog 37 [] [.agg [.int .i64 l.1, .sl (.pair (.int .i64) (.int .i64)) l.2], .sl (.int .i64) w, .sl (.int .i64) v0] [] (.int .i64 r) := by
 unfold linealref03_asked at h
 refine zH Try.func37 [.tmp 6] 20 ?_
 refine zo ?_
 refine zB [(1, .sl (.int .i64) w), (2, .sl (.int .i64) v0), (3, .bp 3 0)] [(3, .box 24 [.int .i64 l.1, .sl (.pair (.int .i64) (.int .i64)) l.2])] ?_
 refine AW.seq ?_
 refine zo ?_
 refine zS 1 [(1, .sl (.int .i64) w), (2, .sl (.int .i64) v0), (3, .bp 3 0), (7, .agg [.int .i64 l.1, .sl (.pair (.int .i64) (.int .i64)) l.2])] [(3, .box 24 [.int .i64 l.1, .sl (.pair (.int .i64) (.int .i64)) l.2])] ?_
 obtain ⟨v0_2, hv1, h⟩ := Option.bind_eq_some_iff.1 h
 refine zC [] [] (hc_linealref03_Valid l hv1) [(1, .sl (.int .i64) w), (2, .sl (.int .i64) v0), (3, .bp 3 0), (8, .bool v0_2)] [(3, .box 24 [.int .i64 l.1, .sl (.pair (.int .i64) (.int .i64)) l.2])] ?_
 refine zB [(1, .sl (.int .i64) w), (2, .sl (.int .i64) v0), (3, .bp 3 0), (9, .bool (!v0_2))] [(3, .box 24 [.int .i64 l.1, .sl (.pair (.int .i64) (.int .i64)) l.2])] ?_
 refine zQ h (fun hb2 h => ?_) (fun hb2 h => ?_)
 ·refine zo ?_
  refine zB [(6, .int .i64 30)] [] ?_
  refine zr ?_
  obtain rfl := Option.some.inj h
  exact zR [] [] []
 ·refine zk ?_
  refine AW.seq ?_
  refine zo ?_
  refine zS 2 [(2, .sl (.int .i64) v0), (3, .bp 3 0), (10, .agg [.int .i64 l.1, .sl (.pair (.int .i64) (.int .i64)) l.2]), (11, .sl (.int .i64) w)] [(3, .box 24 [.int .i64 l.1, .sl (.pair (.int .i64) (.int .i64)) l.2])] ?_
  obtain ⟨v0_3, hv3, h⟩ := Option.bind_eq_some_iff.1 h
  refine zC [] [] (hc_linealref03_IsWord l w hv3) [(2, .sl (.int .i64) v0), (3, .bp 3 0), (12, .bool v0_3)] [(3, .box 24 [.int .i64 l.1, .sl (.pair (.int .i64) (.int .i64)) l.2])] ?_
  refine zS 2 [(2, .sl (.int .i64) v0), (3, .bp 3 0), (14, .bool (!v0_3))] [(3, .box 24 [.int .i64 l.1, .sl (.pair (.int .i64) (.int .i64)) l.2])] ?_
  rcases zI h with ⟨hb4, h⟩ | ⟨hb4, h⟩
  ·refine zS 4 [(14, .bool true), (18, .cv (undef))] [] ?_
   refine zB [(19, .bool true)] [] ?_
   refine AW.cond (b := true) rfl (fun _ => ?_) (fun hb5 => by cases hb5)
   refine zo ?_
   refine zB [(6, .int .i64 31)] [] ?_
   refine zr ?_
   obtain rfl := Option.some.inj h
   exact zR [] [] []
  ·refine zS 2 [(14, .bool false), (15, .agg [.int .i64 l.1, .sl (.pair (.int .i64) (.int .i64)) l.2]), (16, .sl (.int .i64) v0)] [] ?_
   obtain ⟨v0_4, hv6, h⟩ := Option.bind_eq_some_iff.1 h
   refine zG [] [] (hc_linealref03_IsWord l v0 hv6) [(14, .bool false), (17, .bool v0_4)] [] ?_
   refine zB [(19, .bool (!v0_4))] [] ?_
   refine zQ h (fun hb7 h => ?_) (fun hb7 h => ?_)
   ·refine zo ?_
    refine zB [(6, .int .i64 31)] [] ?_
    refine zr ?_
    obtain rfl := Option.some.inj h
    exact zR [] [] []
   ·refine zk ?_
    refine zo ?_
    refine zB [(6, .int .i64 0)] [] ?_
    refine AW.ret ?_
    obtain rfl := Option.some.inj h
    exact zR [] [] []

theorem hc_linealref03_depend (l : Int × (List (Int × Int))) (a : Int) (b : Int) {r : Bool} (h : linealref03_depend l a b = some r) : HC Try.prog 65 [] [.agg [.int .i64 l.1, .sl (.pair (.int .i64) (.int .i64)) l.2], .int .i64 a, .int .i64 b] [] (.bool r) := by
 unfold linealref03_depend at h
 refine zH Try.func65 [.tmp 6] 47 ?_
 refine zo ?_
 refine zB [(1, .int .i64 a), (2, .int .i64 b), (3, .bp 3 0)] [(3, .box 24 [.int .i64 l.1, .sl (.pair (.int .i64) (.int .i64)) l.2])] ?_
 refine zo ?_
 refine zB [(1, .int .i64 a), (2, .int .i64 b), (3, .bp 3 0), (7, .bool (decide (a = b)))] [(3, .box 24 [.int .i64 l.1, .sl (.pair (.int .i64) (.int .i64)) l.2])] ?_
 refine AW.have1 (fun b1 : Bool => linealref03_depend_k1 b1 = some r) (fun b1 => ⟨fr [(7, .bool b1)], hpGet [], gt⟩) (fun b1 h => ?_) (fun hk_linealref03_depend_k1 => ?_)
 ·as_aux_lemma =>
   unfold linealref03_depend_k1 at h
   refine zo ?_
   refine zB [(6, .bool b1)] [] ?_
   refine AW.ret ?_
   obtain rfl := Option.some.inj h
   exact zR [] [] []
 ·refine AW.seq ?_
  refine zo ?_
  refine zB [(1, .int .i64 a), (2, .int .i64 b), (7, .bool (decide (a = b))), (14, .sl (.pair (.int .i64) (.int .i64)) l.2), (15, .int .i64 (l.2.length : Int)), (16, .int .i64 0)] [] ?_
  refine AW.block ?_
  obtain ⟨rv5, hw1, ho2⟩ := Option.bind_eq_some_iff.1 h
  refine AW.loopO (linealref03_depend_b1 l a b) (fun st1 => ⟨fr [(1, .int .i64 a), (2, .int .i64 b), (7, .bool st1.1), (14, .sl (.pair (.int .i64) (.int .i64)) l.2), (15, .int .i64 (l.2.length : Int)), (16, .int .i64 st1.2)], hpGet [], gt⟩) ((decide (a = b)), 0) hw1 (zL [] [] []) ?_
  as_aux_lemma =>
   intro st1 x4 h hd3
   unfold linealref03_depend_b1 at h
   refine zo ?_
   refine zB [(1, .int .i64 a), (2, .int .i64 b), (7, .bool st1.1), (14, .sl (.pair (.int .i64) (.int .i64)) l.2), (15, .int .i64 (l.2.length : Int)), (16, .int .i64 st1.2), (17, .bool (decide (st1.2 < (l.2.length : Int))))] [] ?_
   refine AW.seq ?_
   refine zQ h (fun hb6 h => ?_) (fun hb6 h => ?_)
   ·refine zk ?_
    refine AW.seq ?_
    refine AW.block ?_
    refine zo ?_
    obtain ⟨c7, h⟩ := ck_some.1 h
    obtain ⟨c8, h⟩ := ck_some.1 h
    refine zB [(1, .int .i64 a), (2, .int .i64 b), (7, .bool st1.1), (9, .bp 9 0), (14, .sl (.pair (.int .i64) (.int .i64)) l.2), (15, .int .i64 (l.2.length : Int)), (16, .int .i64 st1.2)] [(9, .box 50 [.int .i64 (l.2.getD st1.2.toNat (0, 0)).1, .int .i64 (l.2.getD st1.2.toNat (0, 0)).2])] ?_
    refine AW.ops ?_
    refine zS 2 [(1, .int .i64 a), (2, .int .i64 b), (9, .bp 9 0), (14, .sl (.pair (.int .i64) (.int .i64)) l.2), (15, .int .i64 (l.2.length : Int)), (16, .int .i64 st1.2), (21, .bool st1.1)] [(9, .box 50 [.int .i64 (l.2.getD st1.2.toNat (0, 0)).1, .int .i64 (l.2.getD st1.2.toNat (0, 0)).2])] ?_
    rcases zI h with ⟨hb9, h⟩ | ⟨hb9, h⟩
    ·refine zS 4 [(1, .int .i64 a), (2, .int .i64 b), (9, .bp 9 0), (14, .sl (.pair (.int .i64) (.int .i64)) l.2), (15, .int .i64 (l.2.length : Int)), (16, .int .i64 st1.2), (21, .bool true), (25, .cv (undef))] [(9, .box 50 [.int .i64 (l.2.getD st1.2.toNat (0, 0)).1, .int .i64 (l.2.getD st1.2.toNat (0, 0)).2])] ?_
     refine zS 4 [(1, .int .i64 a), (2, .int .i64 b), (9, .bp 9 0), (14, .sl (.pair (.int .i64) (.int .i64)) l.2), (15, .int .i64 (l.2.length : Int)), (16, .int .i64 st1.2), (21, .bool true), (26, .cv (undef)), (28, .cv (undef)), (29, .cv (undef))] [(9, .box 50 [.int .i64 (l.2.getD st1.2.toNat (0, 0)).1, .int .i64 (l.2.getD st1.2.toNat (0, 0)).2])] ?_
     refine zS 5 [(1, .int .i64 a), (2, .int .i64 b), (9, .bp 9 0), (14, .sl (.pair (.int .i64) (.int .i64)) l.2), (15, .int .i64 (l.2.length : Int)), (16, .int .i64 st1.2), (33, .bool true), (34, .cv (undef))] [(9, .box 50 [.int .i64 (l.2.getD st1.2.toNat (0, 0)).1, .int .i64 (l.2.getD st1.2.toNat (0, 0)).2])] ?_
     refine zS 4 [(1, .int .i64 a), (2, .int .i64 b), (9, .bp 9 0), (14, .sl (.pair (.int .i64) (.int .i64)) l.2), (15, .int .i64 (l.2.length : Int)), (16, .int .i64 st1.2), (33, .bool true), (38, .cv (undef))] [(9, .box 50 [.int .i64 (l.2.getD st1.2.toNat (0, 0)).1, .int .i64 (l.2.getD st1.2.toNat (0, 0)).2])] ?_
     refine zS 4 [(1, .int .i64 a), (2, .int .i64 b), (14, .sl (.pair (.int .i64) (.int .i64)) l.2), (15, .int .i64 (l.2.length : Int)), (16, .int .i64 st1.2), (33, .bool true), (38, .cv (undef)), (42, .cv (undef))] [] ?_
     refine zA [(1, .int .i64 a), (2, .int .i64 b), (7, .bool true), (14, .sl (.pair (.int .i64) (.int .i64)) l.2), (15, .int .i64 (l.2.length : Int)), (16, .int .i64 st1.2)] [] ?_
     refine ablock_n ?_
     refine athen_n ?_
     refine AW.ops ?_
     obtain ⟨c10, h⟩ := ck_some.1 h
     refine zA [(1, .int .i64 a), (2, .int .i64 b), (7, .bool true), (14, .sl (.pair (.int .i64) (.int .i64)) l.2), (15, .int .i64 (l.2.length : Int)), (16, .int .i64 (st1.2 + 1))] [] ?_
     obtain rfl := Option.some.inj h
     exact ⟨_, rfl, zL [] [] []⟩
    ·refine zS 5 [(1, .int .i64 a), (2, .int .i64 b), (9, .bp 9 0), (14, .sl (.pair (.int .i64) (.int .i64)) l.2), (15, .int .i64 (l.2.length : Int)), (16, .int .i64 st1.2), (21, .bool false), (26, .bool (decide ((l.2.getD st1.2.toNat (0, 0)).1 = a)))] [(9, .box 50 [.int .i64 (l.2.getD st1.2.toNat (0, 0)).1, .int .i64 (l.2.getD st1.2.toNat (0, 0)).2])] ?_
     rcases zI h with ⟨hb11, h⟩ | ⟨hb11, h⟩
     ·refine zS 5 [(1, .int .i64 a), (2, .int .i64 b), (9, .bp 9 0), (14, .sl (.pair (.int .i64) (.int .i64)) l.2), (15, .int .i64 (l.2.length : Int)), (16, .int .i64 st1.2), (21, .bool false), (31, .bool (decide ((l.2.getD st1.2.toNat (0, 0)).2 = b)))] [(9, .box 50 [.int .i64 (l.2.getD st1.2.toNat (0, 0)).1, .int .i64 (l.2.getD st1.2.toNat (0, 0)).2])] ?_
      refine zS 2 [(1, .int .i64 a), (2, .int .i64 b), (9, .bp 9 0), (14, .sl (.pair (.int .i64) (.int .i64)) l.2), (15, .int .i64 (l.2.length : Int)), (16, .int .i64 st1.2), (33, .bool (decide ((l.2.getD st1.2.toNat (0, 0)).2 = b)))] [(9, .box 50 [.int .i64 (l.2.getD st1.2.toNat (0, 0)).1, .int .i64 (l.2.getD st1.2.toNat (0, 0)).2])] ?_
      rcases zI h with ⟨hb12, h⟩ | ⟨hb12, h⟩
      ·refine zS 4 [(1, .int .i64 a), (2, .int .i64 b), (9, .bp 9 0), (14, .sl (.pair (.int .i64) (.int .i64)) l.2), (15, .int .i64 (l.2.length : Int)), (16, .int .i64 st1.2), (33, .bool true), (37, .cv (undef))] [(9, .box 50 [.int .i64 (l.2.getD st1.2.toNat (0, 0)).1, .int .i64 (l.2.getD st1.2.toNat (0, 0)).2])] ?_
       refine zS 4 [(1, .int .i64 a), (2, .int .i64 b), (14, .sl (.pair (.int .i64) (.int .i64)) l.2), (15, .int .i64 (l.2.length : Int)), (16, .int .i64 st1.2), (33, .bool true), (38, .cv (undef)), (40, .cv (undef)), (41, .cv (undef))] [] ?_
       refine zA [(1, .int .i64 a), (2, .int .i64 b), (7, .bool true), (14, .sl (.pair (.int .i64) (.int .i64)) l.2), (15, .int .i64 (l.2.length : Int)), (16, .int .i64 st1.2)] [] ?_
       refine ablock_n ?_
       refine athen_n ?_
       refine AW.ops ?_
       obtain ⟨c13, h⟩ := ck_some.1 h
       refine zA [(1, .int .i64 a), (2, .int .i64 b), (7, .bool true), (14, .sl (.pair (.int .i64) (.int .i64)) l.2), (15, .int .i64 (l.2.length : Int)), (16, .int .i64 (st1.2 + 1))] [] ?_
       obtain rfl := Option.some.inj h
       exact ⟨_, rfl, zL [] [] []⟩
      ·refine zS 5 [(1, .int .i64 a), (2, .int .i64 b), (9, .bp 9 0), (14, .sl (.pair (.int .i64) (.int .i64)) l.2), (15, .int .i64 (l.2.length : Int)), (16, .int .i64 st1.2), (33, .bool false), (38, .bool (decide ((l.2.getD st1.2.toNat (0, 0)).1 = b)))] [(9, .box 50 [.int .i64 (l.2.getD st1.2.toNat (0, 0)).1, .int .i64 (l.2.getD st1.2.toNat (0, 0)).2])] ?_
       rcases zI h with ⟨hb14, h⟩ | ⟨hb14, h⟩
       ·refine zS 5 [(1, .int .i64 a), (2, .int .i64 b), (14, .sl (.pair (.int .i64) (.int .i64)) l.2), (15, .int .i64 (l.2.length : Int)), (16, .int .i64 st1.2), (33, .bool false), (43, .bool (decide ((l.2.getD st1.2.toNat (0, 0)).2 = a)))] [] ?_
        refine zA [(1, .int .i64 a), (2, .int .i64 b), (7, .bool (decide ((l.2.getD st1.2.toNat (0, 0)).2 = a))), (14, .sl (.pair (.int .i64) (.int .i64)) l.2), (15, .int .i64 (l.2.length : Int)), (16, .int .i64 st1.2)] [] ?_
        refine ablock_n ?_
        refine athen_n ?_
        refine AW.ops ?_
        obtain ⟨c15, h⟩ := ck_some.1 h
        refine zA [(1, .int .i64 a), (2, .int .i64 b), (7, .bool (decide ((l.2.getD st1.2.toNat (0, 0)).2 = a))), (14, .sl (.pair (.int .i64) (.int .i64)) l.2), (15, .int .i64 (l.2.length : Int)), (16, .int .i64 (st1.2 + 1))] [] ?_
        obtain rfl := Option.some.inj h
        exact ⟨_, rfl, zL [] [] []⟩
       ·refine zS 4 [(1, .int .i64 a), (2, .int .i64 b), (14, .sl (.pair (.int .i64) (.int .i64)) l.2), (15, .int .i64 (l.2.length : Int)), (16, .int .i64 st1.2), (33, .bool false), (38, .bool false), (42, .cv (undef))] [] ?_
        refine zA [(1, .int .i64 a), (2, .int .i64 b), (7, .bool false), (14, .sl (.pair (.int .i64) (.int .i64)) l.2), (15, .int .i64 (l.2.length : Int)), (16, .int .i64 st1.2)] [] ?_
        refine ablock_n ?_
        refine athen_n ?_
        refine AW.ops ?_
        obtain ⟨c16, h⟩ := ck_some.1 h
        refine zA [(1, .int .i64 a), (2, .int .i64 b), (7, .bool false), (14, .sl (.pair (.int .i64) (.int .i64)) l.2), (15, .int .i64 (l.2.length : Int)), (16, .int .i64 (st1.2 + 1))] [] ?_
        obtain rfl := Option.some.inj h
        exact ⟨_, rfl, zL [] [] []⟩
     ·refine zS 4 [(1, .int .i64 a), (2, .int .i64 b), (9, .bp 9 0), (14, .sl (.pair (.int .i64) (.int .i64)) l.2), (15, .int .i64 (l.2.length : Int)), (16, .int .i64 st1.2), (21, .bool false), (26, .bool false), (30, .cv (undef))] [(9, .box 50 [.int .i64 (l.2.getD st1.2.toNat (0, 0)).1, .int .i64 (l.2.getD st1.2.toNat (0, 0)).2])] ?_
      refine zS 5 [(1, .int .i64 a), (2, .int .i64 b), (9, .bp 9 0), (14, .sl (.pair (.int .i64) (.int .i64)) l.2), (15, .int .i64 (l.2.length : Int)), (16, .int .i64 st1.2), (33, .bool false), (35, .int .i64 (l.2.getD st1.2.toNat (0, 0)).1)] [(9, .box 50 [.int .i64 (l.2.getD st1.2.toNat (0, 0)).1, .int .i64 (l.2.getD st1.2.toNat (0, 0)).2])] ?_
      refine zS 3 [(1, .int .i64 a), (2, .int .i64 b), (9, .bp 9 0), (14, .sl (.pair (.int .i64) (.int .i64)) l.2), (15, .int .i64 (l.2.length : Int)), (16, .int .i64 st1.2), (33, .bool false), (38, .bool (decide ((l.2.getD st1.2.toNat (0, 0)).1 = b)))] [(9, .box 50 [.int .i64 (l.2.getD st1.2.toNat (0, 0)).1, .int .i64 (l.2.getD st1.2.toNat (0, 0)).2])] ?_
      rcases zI h with ⟨hb17, h⟩ | ⟨hb17, h⟩
      ·refine zS 5 [(1, .int .i64 a), (2, .int .i64 b), (14, .sl (.pair (.int .i64) (.int .i64)) l.2), (15, .int .i64 (l.2.length : Int)), (16, .int .i64 st1.2), (33, .bool false), (43, .bool (decide ((l.2.getD st1.2.toNat (0, 0)).2 = a)))] [] ?_
       refine zA [(1, .int .i64 a), (2, .int .i64 b), (7, .bool (decide ((l.2.getD st1.2.toNat (0, 0)).2 = a))), (14, .sl (.pair (.int .i64) (.int .i64)) l.2), (15, .int .i64 (l.2.length : Int)), (16, .int .i64 st1.2)] [] ?_
       refine ablock_n ?_
       refine athen_n ?_
       refine AW.ops ?_
       obtain ⟨c18, h⟩ := ck_some.1 h
       refine zA [(1, .int .i64 a), (2, .int .i64 b), (7, .bool (decide ((l.2.getD st1.2.toNat (0, 0)).2 = a))), (14, .sl (.pair (.int .i64) (.int .i64)) l.2), (15, .int .i64 (l.2.length : Int)), (16, .int .i64 (st1.2 + 1))] [] ?_
       obtain rfl := Option.some.inj h
       exact ⟨_, rfl, zL [] [] []⟩
      ·refine zS 4 [(1, .int .i64 a), (2, .int .i64 b), (14, .sl (.pair (.int .i64) (.int .i64)) l.2), (15, .int .i64 (l.2.length : Int)), (16, .int .i64 st1.2), (33, .bool false), (38, .bool false), (42, .cv (undef))] [] ?_
       refine zA [(1, .int .i64 a), (2, .int .i64 b), (7, .bool false), (14, .sl (.pair (.int .i64) (.int .i64)) l.2), (15, .int .i64 (l.2.length : Int)), (16, .int .i64 st1.2)] [] ?_
       refine ablock_n ?_
       refine athen_n ?_
       refine AW.ops ?_
       obtain ⟨c19, h⟩ := ck_some.1 h
       refine zA [(1, .int .i64 a), (2, .int .i64 b), (7, .bool false), (14, .sl (.pair (.int .i64) (.int .i64)) l.2), (15, .int .i64 (l.2.length : Int)), (16, .int .i64 (st1.2 + 1))] [] ?_
       obtain rfl := Option.some.inj h
       exact ⟨_, rfl, zL [] [] []⟩
   ·refine AW.exit ?_
    refine athen_e ?_
    obtain rfl := Option.some.inj h
    rw [← hd3 _ rfl] at ho2
    have h := ho2
    refine athen_e ?_
    refine ablock_s ?_
    refine athen_n ?_
    exact AW.weaken (zL [] [] []) (hk_linealref03_depend_k1 _ h)

theorem hc_linealref03_free (l : Int × (List (Int × Int))) (w : List Int) (a : Int) {r : Int} (h : linealref03_free l w a = some r) : HC Try.prog 60 [] [.agg [.int .i64 l.1, .sl (.pair (.int .i64) (.int .i64)) l.2], .sl (.int .i64) w, .int .i64 a] [] (.int .i64 r) := by
 unfold linealref03_free at h
 refine zH Try.func60 [.tmp 6] 25 ?_
 refine zo ?_
 refine zB [(1, .sl (.int .i64) w), (2, .int .i64 a), (3, .bp 3 0)] [(3, .box 24 [.int .i64 l.1, .sl (.pair (.int .i64) (.int .i64)) l.2])] ?_
 refine AW.have1 (fun _ : Unit => linealref03_free_k1 = some r) (fun _ => ⟨fr [], hpGet [], gt⟩) (fun _ h => ?_) (fun hk_linealref03_free_k1 => ?_)
 ·as_aux_lemma =>
   unfold linealref03_free_k1 at h
   refine zo ?_
   refine zB [(6, .int .i64 (-1))] [] ?_
   refine AW.ret ?_
   obtain rfl := Option.some.inj h
   exact zR [] [] []
 ·refine AW.seq ?_
  refine zo ?_
  refine zB [(2, .int .i64 a), (3, .bp 3 0), (9, .sl (.int .i64) w), (10, .int .i64 (w.length : Int)), (11, .int .i64 0)] [(3, .box 24 [.int .i64 l.1, .sl (.pair (.int .i64) (.int .i64)) l.2])] ?_
  refine AW.block ?_
  obtain ⟨rv5, hw1, ho2⟩ := Option.bind_eq_some_iff.1 h
  refine AW.loopO (linealref03_free_b1 l w a) (fun st1 => ⟨fr [(2, .int .i64 a), (3, .bp 3 0), (9, .sl (.int .i64) w), (10, .int .i64 (w.length : Int)), (11, .int .i64 st1)], hpGet [(3, .box 24 [.int .i64 l.1, .sl (.pair (.int .i64) (.int .i64)) l.2])], gt⟩) 0 hw1 (zL [] [] []) ?_
  as_aux_lemma =>
   intro st1 x4 h hd3
   unfold linealref03_free_b1 at h
   refine zo ?_
   refine zB [(2, .int .i64 a), (3, .bp 3 0), (9, .sl (.int .i64) w), (10, .int .i64 (w.length : Int)), (11, .int .i64 st1), (12, .bool (decide (st1 < (w.length : Int))))] [(3, .box 24 [.int .i64 l.1, .sl (.pair (.int .i64) (.int .i64)) l.2])] ?_
   refine AW.seq ?_
   refine zQ h (fun hb6 h => ?_) (fun hb6 h => ?_)
   ·refine zk ?_
    refine AW.seq ?_
    refine AW.block ?_
    refine zo ?_
    obtain ⟨c7, h⟩ := ck_some.1 h
    obtain ⟨c8, h⟩ := ck_some.1 h
    refine zB [(2, .int .i64 a), (3, .bp 3 0), (7, .int .i64 st1), (8, .int .i64 (w.getD st1.toNat 0)), (9, .sl (.int .i64) w), (10, .int .i64 (w.length : Int)), (11, .int .i64 st1)] [(3, .box 24 [.int .i64 l.1, .sl (.pair (.int .i64) (.int .i64)) l.2])] ?_
    refine AW.seq ?_
    refine zo ?_
    refine zB [(2, .int .i64 a), (3, .bp 3 0), (7, .int .i64 st1), (8, .int .i64 (w.getD st1.toNat 0)), (9, .sl (.int .i64) w), (10, .int .i64 (w.length : Int)), (11, .int .i64 st1), (18, .bool (decide ((w.getD st1.toNat 0) = a)))] [(3, .box 24 [.int .i64 l.1, .sl (.pair (.int .i64) (.int .i64)) l.2])] ?_
    refine zQ h (fun hb9 h => ?_) (fun hb9 h => ?_)
    ·refine zo ?_
     refine zB [(6, .int .i64 st1)] [] ?_
     refine zr ?_
     refine ablock_r ?_
     refine athen_r ?_
     obtain rfl := Option.some.inj h
     rw [← hd3 _ rfl] at ho2
     have h := ho2
     try simp only at h
     refine athen_r ?_
     refine ablock_r ?_
     refine athen_r ?_
     obtain rfl := Option.some.inj h
     exact zR [] [] []
    ·refine zk ?_
     refine zo ?_
     refine zS 3 [(2, .int .i64 a), (3, .bp 3 0), (9, .sl (.int .i64) w), (10, .int .i64 (w.length : Int)), (11, .int .i64 st1), (20, .agg [.int .i64 l.1, .sl (.pair (.int .i64) (.int .i64)) l.2]), (21, .int .i64 a), (22, .int .i64 (w.getD st1.toNat 0))] [(3, .box 24 [.int .i64 l.1, .sl (.pair (.int .i64) (.int .i64)) l.2])] ?_
     obtain ⟨v0, hv10, h⟩ := Option.bind_eq_some_iff.1 h
     refine zC [] [] (hc_linealref03_depend l a (w.getD st1.toNat 0) hv10) [(2, .int .i64 a), (3, .bp 3 0), (9, .sl (.int .i64) w), (10, .int .i64 (w.length : Int)), (11, .int .i64 st1), (23, .bool v0)] [(3, .box 24 [.int .i64 l.1, .sl (.pair (.int .i64) (.int .i64)) l.2])] ?_
     refine zB [(2, .int .i64 a), (3, .bp 3 0), (9, .sl (.int .i64) w), (10, .int .i64 (w.length : Int)), (11, .int .i64 st1), (23, .bool v0)] [(3, .box 24 [.int .i64 l.1, .sl (.pair (.int .i64) (.int .i64)) l.2])] ?_
     refine zQ h (fun hb11 h => ?_) (fun hb11 h => ?_)
     ·refine zo ?_
      refine zB [(6, .int .i64 (-1))] [] ?_
      refine AW.ret ?_
      refine ablock_r ?_
      refine athen_r ?_
      obtain rfl := Option.some.inj h
      rw [← hd3 _ rfl] at ho2
      have h := ho2
      try simp only at h
      refine athen_r ?_
      refine ablock_r ?_
      refine athen_r ?_
      obtain rfl := Option.some.inj h
      exact zR [] [] []
     ·refine zm ?_
      refine athen_n ?_
      refine AW.ops ?_
      obtain ⟨c12, h⟩ := ck_some.1 h
      refine zA [(2, .int .i64 a), (3, .bp 3 0), (9, .sl (.int .i64) w), (10, .int .i64 (w.length : Int)), (11, .int .i64 (st1 + 1))] [(3, .box 24 [.int .i64 l.1, .sl (.pair (.int .i64) (.int .i64)) l.2])] ?_
      obtain rfl := Option.some.inj h
      exact ⟨_, rfl, zL [] [] []⟩
   ·refine AW.exit ?_
    refine athen_e ?_
    obtain rfl := Option.some.inj h
    rw [← hd3 _ rfl] at ho2
    have h := ho2
    try simp only at h
    refine athen_e ?_
    refine ablock_s ?_
    refine athen_n ?_
    exact AW.weaken (zL [] [] []) (hk_linealref03_free_k1 () h)

theorem hc_linealref03_starts (l : Int × (List (Int × Int))) (w : List Int) {r : (List Int)} (h : linealref03_starts l w = some r) : HC Try.prog 38 [] [.agg [.int .i64 l.1, .sl (.pair (.int .i64) (.int .i64)) l.2], .sl (.int .i64) w] [(2000, .arr 3 (.int .i64) r)] (.own 2000) := by
 unfold linealref03_starts at h
 refine zH Try.func38 [.tmp 4] 23 ?_
 refine zo ?_
 refine zB [(1, .sl (.int .i64) w), (2, .bp 2 0)] [(2, .box 24 [.int .i64 l.1, .sl (.pair (.int .i64) (.int .i64)) l.2])] ?_
 refine zo ?_
 refine zB [(1, .sl (.int .i64) w), (2, .bp 2 0), (5, .cv (.slice none 0 0))] [(2, .box 24 [.int .i64 l.1, .sl (.pair (.int .i64) (.int .i64)) l.2])] ?_
 refine AW.have1 (fun b1 : (List Int) => linealref03_starts_k1 b1 = some r) (fun b1 => ⟨fr [(5, .own 20)], hpGet [(20, .arr 3 (.int .i64) b1)], gt⟩) (fun b1 h => ?_) (fun hk_linealref03_starts_k1 => ?_)
 ·as_aux_lemma =>
   unfold linealref03_starts_k1 at h
   refine zo ?_
   refine zB [(4, .own 20)] [(20, .arr 3 (.int .i64) b1)] ?_
   refine AW.ret ?_
   obtain rfl := Option.some.inj h
   exact zR [] [] [(2000, 20)]
 ·refine AW.seq ?_
  refine zo ?_
  refine zB [(1, .sl (.int .i64) w), (2, .bp 2 0), (5, .cv (.slice none 0 0)), (8, .int .i64 l.1), (9, .int .i64 0)] [(2, .box 24 [.int .i64 l.1, .sl (.pair (.int .i64) (.int .i64)) l.2])] ?_
  refine AW.block ?_
  obtain ⟨rv5, hw1, ho2⟩ := Option.bind_eq_some_iff.1 h
  refine AW.loopO (linealref03_starts_b1 l w) (fun st1 => ⟨fr [(1, .sl (.int .i64) w), (2, .bp 2 0), (5, .own 20), (8, .int .i64 l.1), (9, .int .i64 st1.2)], hpGet [(2, .box 24 [.int .i64 l.1, .sl (.pair (.int .i64) (.int .i64)) l.2]), (20, .arr 3 (.int .i64) st1.1)], gt⟩) ([], 0) hw1 (zL [] [20] []) ?_
  as_aux_lemma =>
   intro st1 x4 h hd3
   unfold linealref03_starts_b1 at h
   refine zo ?_
   refine zB [(1, .sl (.int .i64) w), (2, .bp 2 0), (5, .own 20), (8, .int .i64 l.1), (9, .int .i64 st1.2), (10, .bool (decide (st1.2 < l.1)))] [(2, .box 24 [.int .i64 l.1, .sl (.pair (.int .i64) (.int .i64)) l.2]), (20, .arr 3 (.int .i64) st1.1)] ?_
   refine AW.seq ?_
   refine zQ h (fun hb6 h => ?_) (fun hb6 h => ?_)
   ·refine zk ?_
    refine AW.seq ?_
    refine AW.block ?_
    refine zo ?_
    refine zB [(1, .sl (.int .i64) w), (2, .bp 2 0), (5, .own 20), (6, .int .i64 st1.2), (8, .int .i64 l.1), (9, .int .i64 st1.2)] [(2, .box 24 [.int .i64 l.1, .sl (.pair (.int .i64) (.int .i64)) l.2]), (20, .arr 3 (.int .i64) st1.1)] ?_
    refine zo ?_
    refine zS 3 [(1, .sl (.int .i64) w), (2, .bp 2 0), (5, .own 20), (6, .int .i64 st1.2), (8, .int .i64 l.1), (9, .int .i64 st1.2), (12, .agg [.int .i64 l.1, .sl (.pair (.int .i64) (.int .i64)) l.2]), (13, .sl (.int .i64) w), (14, .int .i64 st1.2)] [(2, .box 24 [.int .i64 l.1, .sl (.pair (.int .i64) (.int .i64)) l.2]), (20, .arr 3 (.int .i64) st1.1)] ?_
    obtain ⟨v0, hv7, h⟩ := Option.bind_eq_some_iff.1 h
    refine zC [] [] (hc_linealref03_free l w st1.2 hv7) [(1, .sl (.int .i64) w), (2, .bp 2 0), (5, .own 20), (6, .int .i64 st1.2), (8, .int .i64 l.1), (9, .int .i64 st1.2), (15, .int .i64 v0)] [(2, .box 24 [.int .i64 l.1, .sl (.pair (.int .i64) (.int .i64)) l.2]), (20, .arr 3 (.int .i64) st1.1)] ?_
    refine zB [(1, .sl (.int .i64) w), (2, .bp 2 0), (5, .own 20), (6, .int .i64 st1.2), (8, .int .i64 l.1), (9, .int .i64 st1.2), (16, .bool (decide (0 ≤ v0)))] [(2, .box 24 [.int .i64 l.1, .sl (.pair (.int .i64) (.int .i64)) l.2]), (20, .arr 3 (.int .i64) st1.1)] ?_
    refine zQ h (fun hb8 h => ?_) (fun hb8 h => ?_)
    ·refine AW.ops ?_
     obtain ⟨c9, h⟩ := ck_some.1 h
     refine zA [(1, .sl (.int .i64) w), (2, .bp 2 0), (5, .own 20), (8, .int .i64 l.1), (9, .int .i64 st1.2)] [(2, .box 24 [.int .i64 l.1, .sl (.pair (.int .i64) (.int .i64)) l.2]), (20, .arr 3 (.int .i64) (st1.1 ++ [st1.2]))] ?_
     refine ablock_n ?_
     refine athen_n ?_
     refine AW.ops ?_
     obtain ⟨c10, h⟩ := ck_some.1 h
     refine zA [(1, .sl (.int .i64) w), (2, .bp 2 0), (5, .own 20), (8, .int .i64 l.1), (9, .int .i64 (st1.2 + 1))] [(2, .box 24 [.int .i64 l.1, .sl (.pair (.int .i64) (.int .i64)) l.2]), (20, .arr 3 (.int .i64) (st1.1 ++ [st1.2]))] ?_
     obtain rfl := Option.some.inj h
     exact ⟨_, rfl, zL [] [] []⟩
    ·refine zm ?_
     refine athen_n ?_
     refine AW.ops ?_
     obtain ⟨c11, h⟩ := ck_some.1 h
     refine zA [(1, .sl (.int .i64) w), (2, .bp 2 0), (5, .own 20), (8, .int .i64 l.1), (9, .int .i64 (st1.2 + 1))] [(2, .box 24 [.int .i64 l.1, .sl (.pair (.int .i64) (.int .i64)) l.2]), (20, .arr 3 (.int .i64) st1.1)] ?_
     obtain rfl := Option.some.inj h
     exact ⟨_, rfl, zL [] [] []⟩
   ·refine AW.exit ?_
    refine athen_e ?_
    obtain rfl := Option.some.inj h
    rw [← hd3 _ rfl] at ho2
    have h := ho2
    refine athen_e ?_
    refine ablock_s ?_
    refine athen_n ?_
    exact AW.weaken (zL [] [] []) (hk_linealref03_starts_k1 _ h)

theorem hc_linealref03_without (w : List Int) (at0 : Int) {r : Unit} (h : linealref03_without w at0 = some r) : HC Try.prog 61 [] [.sl (.int .i64) w, .int .i64 at0] [(2000, .arr 3 (.int .i64) ((w.take at0.toNat) ++ (w.drop (at0 + 1).toNat)))] (.own 2000) := by
 unfold linealref03_without at h
 refine zH Try.func61 [.tmp 4] 15 ?_
 refine zo ?_
 refine zB [(0, .sl (.int .i64) w), (1, .int .i64 at0)] [] ?_
 refine AW.seq ?_
 refine AW.draw tab_ok mixed_ok [(0, [5]), (4, [5, 9]), (9, [9, 14])] [(1, []), (2, []), (3, []), (5, []), (6, []), (7, []), (8, [])] (by decide) (lex_fast (by kernel_rfl)) ?_
 as_aux_lemma =>
  obtain ⟨c2, h⟩ := ck_some.1 h
  obtain ⟨c3, h⟩ := ck_some.1 h
  obtain ⟨c4, h⟩ := ck_some.1 h
  refine adops_cut 6 (fun K' hK1 => ?_)
  try dsimp only [List.drop_succ_cons, List.drop_zero, List.take_succ_cons, List.take_zero]
  simp only [go_sem]
  repeat with_reducible refine zN ?_
  refine hK1 _ ?_
  as_aux_lemma =>
   obtain ⟨c6, h⟩ := ck_some.1 h
   obtain ⟨c7, h⟩ := ck_some.1 h
   obtain ⟨c8, h⟩ := ck_some.1 h
   obtain ⟨c9, h⟩ := ck_some.1 h
   refine adops_cut 5 (fun K' hK5 => ?_)
   try dsimp only [List.drop_succ_cons, List.drop_zero, List.take_succ_cons, List.take_zero]
   simp only [go_sem]
   repeat with_reducible refine zN ?_
   refine hK5 _ ?_
   refine adops_nil ?_
   refine athen_n ?_
   refine zV [(4, .own 14)] [(14, .arr 3 (.int .i64) ((w.take at0.toNat) ++ (w.drop (at0 + 1).toNat)))] gt ?_
   as_aux_lemma =>
    refine AW.ret ?_
    obtain rfl := Option.some.inj h
    exact zR [] [] [(2000, 14)]

theorem hc_linealref03_rest (l : Int × (List (Int × Int))) (u : List Int) (w : List Int) {r : (List Int) × Bool} (h : linealref03_rest l u w = some r) : HC Try.prog 39 [] [.agg [.int .i64 l.1, .sl (.pair (.int .i64) (.int .i64)) l.2], .sl (.int .i64) u, .sl (.int .i64) w] [(2000, .arr 3 (.int .i64) r.1)] (.tup [.own 2000, .bool r.2]) := by
 unfold linealref03_rest at h
 refine zH Try.func39 [.tmp 6, .tmp 7] 32 ?_
 refine zo ?_
 refine zB [(1, .sl (.int .i64) u), (2, .sl (.int .i64) w), (3, .bp 3 0)] [(3, .box 24 [.int .i64 l.1, .sl (.pair (.int .i64) (.int .i64)) l.2])] ?_
 refine zo ?_
 obtain ⟨c1, h⟩ := ck_some.1 h
 refine zB [(1, .sl (.int .i64) u), (3, .bp 3 0), (8, .own 14)] [(3, .box 24 [.int .i64 l.1, .sl (.pair (.int .i64) (.int .i64)) l.2]), (14, .arr 3 (.int .i64) w)] ?_
 refine AW.have1 (fun b1 : (List Int) => linealref03_rest_k1 b1 = some r) (fun b1 => ⟨fr [(8, .own 14)], hpGet [(14, .arr 3 (.int .i64) b1)], gt⟩) (fun b1 h => ?_) (fun hk_linealref03_rest_k1 => ?_)
 ·as_aux_lemma =>
   unfold linealref03_rest_k1 at h
   refine zo ?_
   refine zB [(6, .own 14), (7, .bool true)] [(14, .arr 3 (.int .i64) b1)] ?_
   refine AW.ret ?_
   obtain rfl := Option.some.inj h
   exact zR [] [] [(2000, 14)]
 ·refine AW.seq ?_
  refine zo ?_
  refine zB [(3, .bp 3 0), (8, .own 14), (15, .sl (.int .i64) u), (16, .int .i64 (u.length : Int)), (17, .int .i64 0)] [(3, .box 24 [.int .i64 l.1, .sl (.pair (.int .i64) (.int .i64)) l.2]), (14, .arr 3 (.int .i64) w)] ?_
  refine AW.block ?_
  obtain ⟨rv6, hw2, ho3⟩ := Option.bind_eq_some_iff.1 h
  refine AW.loopO (linealref03_rest_b1 l u) (fun st1 => ⟨fr [(3, .bp 3 0), (8, .own 14), (15, .sl (.int .i64) u), (16, .int .i64 (u.length : Int)), (17, .int .i64 st1.2)], hpGet [(3, .box 24 [.int .i64 l.1, .sl (.pair (.int .i64) (.int .i64)) l.2]), (14, .arr 3 (.int .i64) st1.1)], gt⟩) (w, 0) hw2 (zL [] [] []) ?_
  as_aux_lemma =>
   intro st1 x5 h hd4
   unfold linealref03_rest_b1 at h
   refine zo ?_
   refine zB [(3, .bp 3 0), (8, .own 14), (15, .sl (.int .i64) u), (16, .int .i64 (u.length : Int)), (17, .int .i64 st1.2), (18, .bool (decide (st1.2 < (u.length : Int))))] [(3, .box 24 [.int .i64 l.1, .sl (.pair (.int .i64) (.int .i64)) l.2]), (14, .arr 3 (.int .i64) st1.1)] ?_
   refine AW.seq ?_
   refine zQ h (fun hb7 h => ?_) (fun hb7 h => ?_)
   ·refine zk ?_
    refine AW.seq ?_
    refine AW.block ?_
    refine zo ?_
    obtain ⟨c8, h⟩ := ck_some.1 h
    obtain ⟨c9, h⟩ := ck_some.1 h
    refine zB [(3, .bp 3 0), (8, .own 14), (10, .int .i64 (u.getD st1.2.toNat 0)), (15, .sl (.int .i64) u), (16, .int .i64 (u.length : Int)), (17, .int .i64 st1.2)] [(3, .box 24 [.int .i64 l.1, .sl (.pair (.int .i64) (.int .i64)) l.2]), (14, .arr 3 (.int .i64) st1.1)] ?_
    refine zo ?_
    refine zS 3 [(3, .bp 3 0), (8, .own 14), (15, .sl (.int .i64) u), (16, .int .i64 (u.length : Int)), (17, .int .i64 st1.2), (21, .agg [.int .i64 l.1, .sl (.pair (.int .i64) (.int .i64)) l.2]), (22, .own 14), (23, .int .i64 (u.getD st1.2.toNat 0))] [(3, .box 24 [.int .i64 l.1, .sl (.pair (.int .i64) (.int .i64)) l.2]), (14, .arr 3 (.int .i64) st1.1)] ?_
    obtain ⟨v0, hv10, h⟩ := Option.bind_eq_some_iff.1 h
    refine zC [14] [] (hc_linealref03_free l st1.1 (u.getD st1.2.toNat 0) hv10) [(3, .bp 3 0), (8, .own 14), (15, .sl (.int .i64) u), (16, .int .i64 (u.length : Int)), (17, .int .i64 st1.2), (24, .int .i64 v0)] [(3, .box 24 [.int .i64 l.1, .sl (.pair (.int .i64) (.int .i64)) l.2]), (14, .arr 3 (.int .i64) st1.1)] ?_
    refine zB [(3, .bp 3 0), (8, .own 14), (11, .int .i64 v0), (15, .sl (.int .i64) u), (16, .int .i64 (u.length : Int)), (17, .int .i64 st1.2)] [(3, .box 24 [.int .i64 l.1, .sl (.pair (.int .i64) (.int .i64)) l.2]), (14, .arr 3 (.int .i64) st1.1)] ?_
    refine AW.seq ?_
    refine zo ?_
    refine zB [(3, .bp 3 0), (8, .own 14), (11, .int .i64 v0), (15, .sl (.int .i64) u), (16, .int .i64 (u.length : Int)), (17, .int .i64 st1.2), (26, .bool (decide (v0 < 0)))] [(3, .box 24 [.int .i64 l.1, .sl (.pair (.int .i64) (.int .i64)) l.2]), (14, .arr 3 (.int .i64) st1.1)] ?_
    refine zQ h (fun hb11 h => ?_) (fun hb11 h => ?_)
    ·refine zo ?_
     refine zB [(6, .cv (.slice none 0 0)), (7, .bool false)] [] ?_
     refine zr ?_
     refine ablock_r ?_
     refine athen_r ?_
     obtain rfl := Option.some.inj h
     rw [← hd4 _ rfl] at ho3
     have h := ho3
     try simp only at h
     refine athen_r ?_
     refine ablock_r ?_
     refine athen_r ?_
     obtain rfl := Option.some.inj h
     exact zR [] [2000] []
    ·refine zk ?_
     refine AW.ops ?_
     refine zS 2 [(3, .bp 3 0), (15, .sl (.int .i64) u), (16, .int .i64 (u.length : Int)), (17, .int .i64 st1.2), (27, .own 14), (28, .int .i64 v0)] [(3, .box 24 [.int .i64 l.1, .sl (.pair (.int .i64) (.int .i64)) l.2]), (14, .arr 3 (.int .i64) st1.1)] ?_
     obtain ⟨v0_2, hv12, h⟩ := Option.bind_eq_some_iff.1 h
     refine zC [14] [] (hc_linealref03_without st1.1 v0 hv12) [(3, .bp 3 0), (15, .sl (.int .i64) u), (16, .int .i64 (u.length : Int)), (17, .int .i64 st1.2), (29, .own 39000)] [(3, .box 24 [.int .i64 l.1, .sl (.pair (.int .i64) (.int .i64)) l.2]), (39000, .arr 3 (.int .i64) ((st1.1.take v0.toNat) ++ (st1.1.drop (v0 + 1).toNat)))] ?_
     refine zA [(3, .bp 3 0), (8, .own 39000), (15, .sl (.int .i64) u), (16, .int .i64 (u.length : Int)), (17, .int .i64 st1.2)] [(3, .box 24 [.int .i64 l.1, .sl (.pair (.int .i64) (.int .i64)) l.2]), (39000, .arr 3 (.int .i64) ((st1.1.take v0.toNat) ++ (st1.1.drop (v0 + 1).toNat)))] ?_
     refine ablock_n ?_
     refine athen_n ?_
     refine AW.ops ?_
     obtain ⟨c13, h⟩ := ck_some.1 h
     refine zA [(3, .bp 3 0), (8, .own 39000), (15, .sl (.int .i64) u), (16, .int .i64 (u.length : Int)), (17, .int .i64 (st1.2 + 1))] [(3, .box 24 [.int .i64 l.1, .sl (.pair (.int .i64) (.int .i64)) l.2]), (39000, .arr 3 (.int .i64) ((st1.1.take v0.toNat) ++ (st1.1.drop (v0 + 1).toNat)))] ?_
     obtain rfl := Option.some.inj h
     exact ⟨_, rfl, zL [] [] [(14, 39000)]⟩
   ·refine AW.exit ?_
    refine athen_e ?_
    obtain rfl := Option.some.inj h
    rw [← hd4 _ rfl] at ho3
    have h := ho3
    try simp only at h
    refine athen_e ?_
    refine ablock_s ?_
    refine athen_n ?_
    exact AW.weaken (zL [] [] []) (hk_linealref03_rest_k1 _ h)

theorem hc_linealref03_Layers (l : Int × (List (Int × Int))) (w : List Int) {r : (List (List Int)) × Int} (h : linealref03_Layers l w = some r) : HC Try.prog 10 [] [.agg [.int .i64 l.1, .sl (.pair (.int .i64) (.int .i64)) l.2], .sl (.int .i64) w] [(2000, .arr 25 (.sl (.int .i64)) r.1)] (.tup [.own 2000, .int .i64 r.2]) := by
 unfold linealref03_Layers at h
 refine zH Try.func10 [.tmp 4, .tmp 5] 35 ?_
 refine zo ?_
 refine zB [(1, .sl (.int .i64) w), (2, .bp 2 0)] [(2, .box 24 [.int .i64 l.1, .sl (.pair (.int .i64) (.int .i64)) l.2])] ?_
 refine AW.seq ?_
 refine zo ?_
 refine zS 2 [(1, .sl (.int .i64) w), (2, .bp 2 0), (10, .agg [.int .i64 l.1, .sl (.pair (.int .i64) (.int .i64)) l.2]), (11, .sl (.int .i64) w)] [(2, .box 24 [.int .i64 l.1, .sl (.pair (.int .i64) (.int .i64)) l.2])] ?_
 obtain ⟨v0, hv1, h⟩ := Option.bind_eq_some_iff.1 h
 refine zC [] [] (hc_linealref03_asked l w [] hv1) [(1, .sl (.int .i64) w), (2, .bp 2 0), (12, .int .i64 v0)] [(2, .box 24 [.int .i64 l.1, .sl (.pair (.int .i64) (.int .i64)) l.2])] ?_
 refine zB [(1, .sl (.int .i64) w), (2, .bp 2 0), (6, .int .i64 v0)] [(2, .box 24 [.int .i64 l.1, .sl (.pair (.int .i64) (.int .i64)) l.2])] ?_
 refine zo ?_
 refine zB [(1, .sl (.int .i64) w), (2, .bp 2 0), (6, .int .i64 v0), (14, .bool (!(decide (v0 = 0))))] [(2, .box 24 [.int .i64 l.1, .sl (.pair (.int .i64) (.int .i64)) l.2])] ?_
 refine zQ h (fun hb2 h => ?_) (fun hb2 h => ?_)
 ·refine zo ?_
  refine zB [(4, .cv (.slice none 0 0)), (5, .int .i64 v0)] [] ?_
  refine zr ?_
  obtain rfl := Option.some.inj h
  exact zR [] [2000] []
 ·refine zk ?_
  refine zo ?_
  refine zB [(1, .sl (.int .i64) w), (2, .bp 2 0), (7, .cv (.slice none 0 0))] [(2, .box 24 [.int .i64 l.1, .sl (.pair (.int .i64) (.int .i64)) l.2])] ?_
  refine AW.have1 (fun b1 : (List (List Int)) => linealref03_Layers_k1 b1 = some r) (fun b1 => ⟨fr [(7, .own 26)], hpGet [(26, .arr 25 (.sl (.int .i64)) b1)], gt⟩) (fun b1 h => ?_) (fun hk_linealref03_Layers_k1 => ?_)
  ·as_aux_lemma =>
    unfold linealref03_Layers_k1 at h
    refine zo ?_
    refine zB [(4, .own 26), (5, .int .i64 0)] [(26, .arr 25 (.sl (.int .i64)) b1)] ?_
    refine AW.ret ?_
    obtain rfl := Option.some.inj h
    exact zR [] [] [(2000, 26)]
  ·refine AW.seq ?_
   refine zo ?_
   refine zB [(2, .bp 2 0), (7, .cv (.slice none 0 0)), (8, .sl (.int .i64) w)] [(2, .box 24 [.int .i64 l.1, .sl (.pair (.int .i64) (.int .i64)) l.2])] ?_
   refine AW.block ?_
   obtain ⟨rv7, hw3, ho4⟩ := Option.bind_eq_some_iff.1 h
   refine AW.loopO (linealref03_Layers_b1 l) (fun st1 => ⟨fr [(2, .bp 2 0), (7, .own 26), (8, .sl (.int .i64) st1.2)], hpGet [(2, .box 24 [.int .i64 l.1, .sl (.pair (.int .i64) (.int .i64)) l.2]), (26, .arr 25 (.sl (.int .i64)) st1.1)], gt⟩) ([], w) hw3 (zL [] [26] []) ?_
   as_aux_lemma =>
    intro st1 x6 h hd5
    unfold linealref03_Layers_b1 at h
    refine AW.seq ?_
    refine zo ?_
    refine zB [(2, .bp 2 0), (7, .own 26), (8, .sl (.int .i64) st1.2), (19, .bool (decide (0 < (st1.2.length : Int))))] [(2, .box 24 [.int .i64 l.1, .sl (.pair (.int .i64) (.int .i64)) l.2]), (26, .arr 25 (.sl (.int .i64)) st1.1)] ?_
    refine zQ h (fun hb8 h => ?_) (fun hb8 h => ?_)
    ·refine zk ?_
     refine AW.block ?_
     refine zo ?_
     refine zS 2 [(2, .bp 2 0), (7, .own 26), (8, .sl (.int .i64) st1.2), (20, .agg [.int .i64 l.1, .sl (.pair (.int .i64) (.int .i64)) l.2]), (21, .sl (.int .i64) st1.2)] [(2, .box 24 [.int .i64 l.1, .sl (.pair (.int .i64) (.int .i64)) l.2]), (26, .arr 25 (.sl (.int .i64)) st1.1)] ?_
     obtain ⟨v0_2, hv9, h⟩ := Option.bind_eq_some_iff.1 h
     refine zC [] [] (hc_linealref03_starts l st1.2 hv9) [(2, .bp 2 0), (7, .own 26), (8, .sl (.int .i64) st1.2), (22, .own 32000)] [(2, .box 24 [.int .i64 l.1, .sl (.pair (.int .i64) (.int .i64)) l.2]), (26, .arr 25 (.sl (.int .i64)) st1.1), (32000, .arr 3 (.int .i64) v0_2)] ?_
     refine zB [(2, .bp 2 0), (7, .own 26), (8, .sl (.int .i64) st1.2), (9, .own 32000)] [(2, .box 24 [.int .i64 l.1, .sl (.pair (.int .i64) (.int .i64)) l.2]), (26, .arr 25 (.sl (.int .i64)) st1.1), (32000, .arr 3 (.int .i64) v0_2)] ?_
     refine zo ?_
     obtain ⟨c10, h⟩ := ck_some.1 h
     refine zB [(2, .bp 2 0), (7, .own 26), (8, .sl (.int .i64) st1.2), (9, .own 32000)] [(2, .box 24 [.int .i64 l.1, .sl (.pair (.int .i64) (.int .i64)) l.2]), (26, .arr 25 (.sl (.int .i64)) (st1.1 ++ [v0_2])), (32000, .imm (.int .i64) v0_2)] ?_
     refine AW.ops ?_
     refine zS 3 [(2, .bp 2 0), (7, .own 26), (28, .agg [.int .i64 l.1, .sl (.pair (.int .i64) (.int .i64)) l.2]), (29, .own 32000), (30, .sl (.int .i64) st1.2)] [(2, .box 24 [.int .i64 l.1, .sl (.pair (.int .i64) (.int .i64)) l.2]), (26, .arr 25 (.sl (.int .i64)) (st1.1 ++ [v0_2])), (32000, .imm (.int .i64) v0_2)] ?_
     obtain ⟨v0_3, hv11, h⟩ := Option.bind_eq_some_iff.1 h
     refine zC [] [] (hc_linealref03_rest l v0_2 st1.2 hv11) [(2, .bp 2 0), (7, .own 26), (31, .tup [.own 41000, .bool v0_3.2])] [(2, .box 24 [.int .i64 l.1, .sl (.pair (.int .i64) (.int .i64)) l.2]), (26, .arr 25 (.sl (.int .i64)) (st1.1 ++ [v0_2])), (41000, .arr 3 (.int .i64) v0_3.1)] ?_
     refine zA [(2, .bp 2 0), (7, .own 26), (8, .own 41000)] [(2, .box 24 [.int .i64 l.1, .sl (.pair (.int .i64) (.int .i64)) l.2]), (26, .arr 25 (.sl (.int .i64)) (st1.1 ++ [v0_2])), (41000, .arr 3 (.int .i64) v0_3.1)] ?_
     refine ablock_n ?_
     obtain rfl := Option.some.inj h
     exact ⟨_, rfl, zL [41000] [] []⟩
    ·refine AW.exit ?_
     refine athen_e ?_
     obtain rfl := Option.some.inj h
     rw [← hd5 _ rfl] at ho4
     have h := ho4
     refine athen_e ?_
     refine ablock_s ?_
     refine athen_n ?_
     exact AW.weaken (zL [] [] []) (hk_linealref03_Layers_k1 _ h)

end Go.Proofs.Ytabchabbdnhjpaa
