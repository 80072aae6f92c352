/-
  Made by wip/tool/dc.py out of the print of the program: contracts.
-/
import Derived.Test.YtabchabbdnhjpaaVp
import Derived.Test.YtabchabbdnhjpaaSh6
import Derived.Test.YtabchabbdnhjpaaAvd
import Derived.Test.YtabchabbdnhjpaaVuc1
import Derived.Test.YtabchabbdnhjpaaVuc4
namespace Go.Proofs.Ytabchabbdnhjpaa
open Go.RowKit

set_option linter.unusedSimpArgs false
set_option linter.unusedVariables false
set_option linter.constructorNameAsVariable false

set_option maxRecDepth 100000
set_option maxHeartbeats 2000000

theorem hc_weave_ties_first (t : (El T53)) (w : List Int) {r : (List Int)} (h : weave_ties_first t w = some r) : HC Try.prog 40 [] [.agg (cellsX T53 t), .sl (.int .i64) w] [] (.sl (.int .i64) r) := by
 unfold weave_ties_first at h
 refine zH Try.func40 [.cell 4 25] 11 ?_
 refine zo ?_
 refine zB [(1, .sl (.int .i64) w), (2, .bp 2 0), (4, .bp 4 0)] [(2, .box 53 (cellsX T53 t)), (4, .box 25 [.cv (.slice none 0 0)])] ?_
 refine AW.have1 (fun _ : Unit => weave_ties_first_k1 = some r) (fun _ => ⟨fr [(4, .bp 4 0)], hpGet [(4, .box 25 [.cv (.slice none 0 0)])], gt⟩) (fun _ h => ?_) (fun hk_weave_ties_first_k1 => ?_)
 ·as_aux_lemma =>
   unfold weave_ties_first_k1 at h
   refine zo ?_
   refine zB [(4, .bp 4 0)] [(4, .box 25 [.cv (.slice none 0 0)])] ?_
   refine AW.ret ?_
   obtain rfl := Option.some.inj h
   exact zR [] [] []
 ·refine AW.seq ?_
  refine zo ?_
  refine zS 2 [(4, .bp 4 0), (6, .agg (cellsX T53 t)), (7, .sl (.int .i64) w)] [(4, .box 25 [.cv (.slice none 0 0)])] ?_
  obtain ⟨v0, hv1, h⟩ := Option.bind_eq_some_iff.1 h
  refine zC [] [] (hc_weave_ties_class t w hv1) [(4, .bp 4 0), (8, .fn (.func 67) [] [.bp 18000 0, .bp 18001 0])] [(4, .box 25 [.cv (.slice none 0 0)]), (18000, .box 25 [.sl (.int .i64) w]), (18001, .box 53 (cellsX T53 t))] ?_
  refine zB [(4, .bp 4 0), (8, .fn (.func 67) [] [.bp 18000 0, .bp 18001 0])] [(4, .box 25 [.cv (.slice none 0 0)]), (18000, .box 25 [.sl (.int .i64) w]), (18001, .box 53 (cellsX T53 t))] ?_
  refine AW.block ?_
  obtain ⟨x2, hx3, h⟩ := Option.bind_eq_some_iff.1 h
  refine AW.weaken (s' := ⟨fr [(4, .bp 4 0), (8, .fn (.func 67) [] [.bp 18000 0, .bp 18001 0])], hpGet ([(18000, .box 25 [.sl (.int .i64) w]), (18001, .box 53 (cellsX T53 t))] ++ [(4, .box 25 [.cv (.slice none 0 0)])]), gt⟩) (zL [] [] []) ?_
  refine AW.rangeF (R := (List Int)) (l0 := [(4, .bp 4 0)]) (hI := [(18000, .box 25 [.sl (.int .i64) w]), (18001, .box 53 (cellsX T53 t))]) (h0 := fun (st1 : Unit) => [(4, .box 25 [.cv (.slice none 0 0)])]) (gg := fun (st1 : Unit) => gt) (hx0 := (fun (r1 : (List Int)) => [(4, .box 25 [.sl (.int .i64) r1])])) (gx := (fun (r1 : (List Int)) => gt)) (ex := (fun (r1 : (List Int)) => Exit.ret)) () [(18000, 1000), (18001, 1001)] [(1000, 18000), (1001, 18001)] [(4, 1900)] [(1900, 4)] (by decide) rfl (by first | exact (ic_weave_ties_class_1 fuel w t (weave_ties_first_y1) () hx3) | simpa only [go_sem] using (ic_weave_ties_class_1 fuel w t (weave_ties_first_y1) () hx3)) (by (simp only [go_sem]) <;> (with_reducible and_intros) <;> first | assumption | rfl | omega | (unfold maxLen; omega)) rfl rfl rfl (fun _ => rfl) rfl (fun _ => rfl) rfl (fun _ => rfl) (fun _ => rfl) (fun _ => rfl) (fun _ => rfl) rfl (fun _ _ => by first | rfl | (exact (hΓ _).trans (hΓ _).symm) | (exact (hΓx _).trans (hΓ _).symm)) (fun _ _ => by first | rfl | (exact (hΓ _).trans (hΓ _).symm) | (exact (hΓx _).trans (hΓ _).symm)) ?_ ?_
  ·intro lpy1 y1 st1 x4 h
   unfold weave_ties_first_y1 at h
   refine zV [(4, .bp 1900 0), (9, .sl (.int .i64) y1)] [(1900, .box 25 [.cv (.slice none 0 0)])] gt ?_
   refine AW.ops ?_
   refine zA [(4, .bp 1900 0), (5, .sl (.int .i64) y1)] [(1900, .box 25 [.cv (.slice none 0 0)])] ?_
   refine And.intro rfl ?_
   refine AW.block ?_
   refine zo ?_
   refine zB [(4, .bp 1900 0)] [(1900, .box 25 [.sl (.int .i64) y1])] ?_
   refine AW.ret ?_
   refine ablock_r ?_
   obtain rfl := Option.some.inj h
   exact rpost_ret rfl rfl [] [] [] rfl (by (simp only [go_sem]) <;> (with_reducible and_intros) <;> first | assumption | rfl | omega | (unfold maxLen; omega))
  ·cases x2 with
   | inl st1_2 =>
    try simp only at h
    refine ablock_n ?_
    refine athen_n ?_
    exact AW.weaken (zL [] [] []) (hk_weave_ties_first_k1 () h)
   | inr r1 =>
    try simp only at h
    refine ablock_r ?_
    refine athen_r ?_
    obtain rfl := Option.some.inj h
    exact zR [] [] []

theorem hc_slices_Equal (s1 : List Int) (s2 : List Int) {r : Bool} (h : slices_Equal s1 s2 = some r) : HC Try.prog 47 [] [.sl (.int .i64) s1, .sl (.int .i64) s2] [] (.bool r) := by
 unfold slices_Equal at h
 refine zH Try.func47 [.tmp 4] 26 ?_
 refine zo ?_
 refine zB [(0, .sl (.int .i64) s1), (1, .sl (.int .i64) s2)] [] ?_
 refine AW.seq ?_
 refine zo ?_
 refine zB [(0, .sl (.int .i64) s1), (1, .sl (.int .i64) s2), (10, .bool (!(decide ((s1.length : Int) = (s2.length : Int)))))] [] ?_
 refine zQ h (fun hb1 h => ?_) (fun hb1 h => ?_)
 ·refine zo ?_
  refine zB [(4, .bool false)] [] ?_
  refine zr ?_
  obtain rfl := Option.some.inj h
  exact zR [] [] []
 ·refine zk ?_
  refine AW.have1 (fun _ : Unit => slices_Equal_k1 = some r) (fun _ => ⟨fr [], hpGet [], gt⟩) (fun _ h => ?_) (fun hk_slices_Equal_k1 => ?_)
  ·as_aux_lemma =>
    unfold slices_Equal_k1 at h
    refine zo ?_
    refine zB [(4, .bool true)] [] ?_
    refine AW.ret ?_
    obtain rfl := Option.some.inj h
    exact zR [] [] []
  ·refine AW.seq ?_
   refine zo ?_
   refine zB [(0, .sl (.int .i64) s1), (1, .sl (.int .i64) s2), (12, .int .i64 (s1.length : Int)), (13, .int .i64 0)] [] ?_
   refine AW.block ?_
   obtain ⟨rv6, hw2, ho3⟩ := Option.bind_eq_some_iff.1 h
   refine AW.loopO (slices_Equal_b1 s1 s2) (fun st1 => ⟨fr [(0, .sl (.int .i64) s1), (1, .sl (.int .i64) s2), (12, .int .i64 (s1.length : Int)), (13, .int .i64 st1)], hpGet [], gt⟩) 0 hw2 (zL [] [] []) ?_
   as_aux_lemma =>
    intro st1 x5 h hd4
    unfold slices_Equal_b1 at h
    refine zo ?_
    refine zB [(0, .sl (.int .i64) s1), (1, .sl (.int .i64) s2), (12, .int .i64 (s1.length : Int)), (13, .int .i64 st1), (14, .bool (decide (st1 < (s1.length : Int))))] [] ?_
    refine AW.seq ?_
    refine zQ h (fun hb7 h => ?_) (fun hb7 h => ?_)
    ·refine zk ?_
     refine AW.seq ?_
     refine AW.block ?_
     refine zo ?_
     refine zB [(0, .sl (.int .i64) s1), (1, .sl (.int .i64) s2), (5, .int .i64 st1), (12, .int .i64 (s1.length : Int)), (13, .int .i64 st1)] [] ?_
     refine AW.seq ?_
     refine AW.draw tab_ok mixed_ok [] [] (by decide) (lex_fast (by kernel_rfl)) ?_
     as_aux_lemma =>
      obtain ⟨c9, h⟩ := ck_some.1 h
      obtain ⟨c10, h⟩ := ck_some.1 h
      refine adops_cut 6 (fun K' hK8 => ?_)
      try dsimp only [List.drop_succ_cons, List.drop_zero, List.take_succ_cons, List.take_zero]
      simp only [go_sem, hb1, hb7]
      repeat with_reducible refine zN ?_
      refine hK8 _ ?_
      as_aux_lemma =>
       obtain ⟨c12, h⟩ := ck_some.1 h
       obtain ⟨c13, h⟩ := ck_some.1 h
       refine adops_cut 3 (fun K' hK11 => ?_)
       try dsimp only [List.drop_succ_cons, List.drop_zero, List.take_succ_cons, List.take_zero]
       simp only [go_sem, hb1, hb7]
       repeat with_reducible refine zN ?_
       refine hK11 _ ?_
       refine adops_nil ?_
       refine athen_n ?_
       refine zV [(0, .sl (.int .i64) s1), (1, .sl (.int .i64) s2), (12, .int .i64 (s1.length : Int)), (13, .int .i64 st1), (24, .bool (!(decide ((s1.getD st1.toNat 0) = (s2.getD st1.toNat 0)))))] [] gt ?_
       as_aux_lemma =>
        refine zQ h (fun hb14 h => ?_) (fun hb14 h => ?_)
        ·refine zo ?_
         refine zB [(4, .bool false)] [] ?_
         refine AW.ret ?_
         refine ablock_r ?_
         refine athen_r ?_
         obtain rfl := Option.some.inj h
         rw [← hd4 _ rfl] at ho3
         have h := ho3
         try simp only at h
         refine athen_r ?_
         refine ablock_r ?_
         refine athen_r ?_
         obtain rfl := Option.some.inj h
         exact zR [] [] []
        ·refine zm ?_
         refine athen_n ?_
         refine AW.ops ?_
         obtain ⟨c15, h⟩ := ck_some.1 h
         refine zA [(0, .sl (.int .i64) s1), (1, .sl (.int .i64) s2), (12, .int .i64 (s1.length : Int)), (13, .int .i64 (st1 + 1))] [] ?_
         obtain rfl := Option.some.inj h
         exact ⟨_, rfl, zL [] [] []⟩
    ·refine AW.exit ?_
     refine athen_e ?_
     obtain rfl := Option.some.inj h
     rw [← hd4 _ rfl] at ho3
     have h := ho3
     try simp only at h
     refine athen_e ?_
     refine ablock_s ?_
     refine athen_n ?_
     exact AW.weaken (zL [] [] []) (hk_slices_Equal_k1 () h)

theorem hc_weave_Equal (l : Int × (List (Int × Int))) (w : List Int) (v0 : List Int) {r : Bool × Int} (h : weave_Equal l w v0 = some r) : HC Try.prog 22 [] [.agg [.int .i64 l.1, .sl (.pair (.int .i64) (.int .i64)) l.2], .sl (.int .i64) w, .sl (.int .i64) v0] [] (.tup [.bool r.1, .int .i64 r.2]) := by
 unfold weave_Equal at h
 refine zH Try.func22 [.tmp 6, .tmp 7] 28 ?_
 refine zo ?_
 refine zB [(1, .sl (.int .i64) w), (2, .sl (.int .i64) v0), (3, .bp 3 0)] [(3, .box 24 [.int .i64 l.1, .sl (.pair (.int .i64) (.int .i64)) l.2])] ?_
 refine zo ?_
 refine zS 4 [(1, .sl (.int .i64) w), (2, .sl (.int .i64) v0), (11, .agg [.int .i64 l.1, .sl (.pair (.int .i64) (.int .i64)) l.2]), (14, .own 14)] [(14, .arr 25 (.sl (.int .i64)) [w, v0])] ?_
 obtain ⟨v0_2, hv1, h⟩ := Option.bind_eq_some_iff.1 h
 refine zC [14] [] (hc_weave_checked l [w, v0] hv1) [(1, .sl (.int .i64) w), (2, .sl (.int .i64) v0), (15, .tup [.agg (cellsX T53 v0_2.1), .int .i64 v0_2.2])] [] ?_
 refine zS 5 [(1, .sl (.int .i64) w), (2, .sl (.int .i64) v0), (8, .bp 8 0), (17, .int .i64 v0_2.2)] [(8, .box 53 (cellsX T53 v0_2.1))] ?_
 refine zB [(1, .sl (.int .i64) w), (2, .sl (.int .i64) v0), (8, .bp 8 0), (9, .int .i64 v0_2.2)] [(8, .box 53 (cellsX T53 v0_2.1))] ?_
 refine AW.seq ?_
 refine zo ?_
 refine zB [(1, .sl (.int .i64) w), (2, .sl (.int .i64) v0), (8, .bp 8 0), (9, .int .i64 v0_2.2), (19, .bool (!(decide (v0_2.2 = 0))))] [(8, .box 53 (cellsX T53 v0_2.1))] ?_
 refine zQ h (fun hb2 h => ?_) (fun hb2 h => ?_)
 ·refine zo ?_
  refine zB [(6, .bool false), (7, .int .i64 v0_2.2)] [] ?_
  refine zr ?_
  obtain rfl := Option.some.inj h
  exact zR [] [] []
 ·refine zk ?_
  refine AW.seq ?_
  refine AW.draw tab_ok mixed_ok [] [] (by decide) (lex_fast (by kernel_rfl)) ?_
  as_aux_lemma =>
   refine adops_cut 2 (fun K' hK3 => ?_)
   try dsimp only [List.drop_succ_cons, List.drop_zero, List.take_succ_cons, List.take_zero]
   simp only [go_sem, hb2]
   repeat with_reducible refine zN ?_
   refine hK3 _ ?_
   as_aux_lemma =>
    obtain ⟨v0_3, hv4, h⟩ := Option.bind_eq_some_iff.1 h
    refine adops.call (by first | trivial | rfl) rfl rfl rfl (fun _ h => h) [] [] (hc_weave_ties_first v0_2.1 w hv4) rfl (by (simp only [go_sem, hb2]) <;> (with_reducible and_intros) <;> first | assumption | rfl | omega | (unfold maxLen; omega)) (by (simp only [go_sem, hb2]) <;> (with_reducible and_intros) <;> first | assumption | rfl | omega | (unfold maxLen; omega)) rfl ?_
    refine adops_cut 2 (fun K' hK5 => ?_)
    try dsimp only [List.drop_succ_cons, List.drop_zero, List.take_succ_cons, List.take_zero]
    simp only [go_sem, hb2]
    repeat with_reducible refine zN ?_
    refine hK5 _ ?_
    as_aux_lemma =>
     obtain ⟨v0_4, hv6, h⟩ := Option.bind_eq_some_iff.1 h
     refine adops.call (by first | trivial | rfl) rfl rfl rfl (fun _ h => h) [] [] (hc_weave_ties_first v0_2.1 v0 hv6) rfl (by (simp only [go_sem, hb2]) <;> (with_reducible and_intros) <;> first | assumption | rfl | omega | (unfold maxLen; omega)) (by (simp only [go_sem, hb2]) <;> (with_reducible and_intros) <;> first | assumption | rfl | omega | (unfold maxLen; omega)) rfl ?_
     obtain ⟨v0_5, hv7, h⟩ := Option.bind_eq_some_iff.1 h
     refine adops.call (by first | trivial | rfl) rfl rfl rfl (fun _ h => h) [] [] (hc_slices_Equal v0_3 v0_4 hv7) rfl (by (simp only [go_sem, hb2]) <;> (with_reducible and_intros) <;> first | assumption | rfl | omega | (unfold maxLen; omega)) (by (simp only [go_sem, hb2]) <;> (with_reducible and_intros) <;> first | assumption | rfl | omega | (unfold maxLen; omega)) rfl ?_
     refine adops_cut 2 (fun K' hK8 => ?_)
     try dsimp only [List.drop_succ_cons, List.drop_zero, List.take_succ_cons, List.take_zero]
     simp only [go_sem, hb2]
     repeat with_reducible refine zN ?_
     refine hK8 _ ?_
     refine adops_nil ?_
     refine athen_n ?_
     refine zV [(6, .bool v0_5), (7, .int .i64 0)] [] gt ?_
     as_aux_lemma =>
      refine AW.ret ?_
      obtain rfl := Option.some.inj h
      exact zR [] [] []

theorem hc_linealref03_SameInts (a : List Int) (b : List Int) {r : Bool} (h : linealref03_SameInts a b = some r) : HC Try.prog 14 [] [.sl (.int .i64) a, .sl (.int .i64) b] [] (.bool r) := by
 unfold linealref03_SameInts at h
 refine zH Try.func14 [.tmp 4] 26 ?_
 refine zo ?_
 refine zB [(0, .sl (.int .i64) a), (1, .sl (.int .i64) b)] [] ?_
 refine AW.seq ?_
 refine zo ?_
 refine zB [(0, .sl (.int .i64) a), (1, .sl (.int .i64) b), (10, .bool (!(decide ((a.length : Int) = (b.length : Int)))))] [] ?_
 refine zQ h (fun hb1 h => ?_) (fun hb1 h => ?_)
 ·refine zo ?_
  refine zB [(4, .bool false)] [] ?_
  refine zr ?_
  obtain rfl := Option.some.inj h
  exact zR [] [] []
 ·refine zk ?_
  refine AW.have1 (fun _ : Unit => linealref03_SameInts_k1 = some r) (fun _ => ⟨fr [], hpGet [], gt⟩) (fun _ h => ?_) (fun hk_linealref03_SameInts_k1 => ?_)
  ·as_aux_lemma =>
    unfold linealref03_SameInts_k1 at h
    refine zo ?_
    refine zB [(4, .bool true)] [] ?_
    refine AW.ret ?_
    obtain rfl := Option.some.inj h
    exact zR [] [] []
  ·refine AW.seq ?_
   refine zo ?_
   refine zB [(0, .sl (.int .i64) a), (1, .sl (.int .i64) b), (12, .int .i64 (a.length : Int)), (13, .int .i64 0)] [] ?_
   refine AW.block ?_
   obtain ⟨rv6, hw2, ho3⟩ := Option.bind_eq_some_iff.1 h
   refine AW.loopO (linealref03_SameInts_b1 a b) (fun st1 => ⟨fr [(0, .sl (.int .i64) a), (1, .sl (.int .i64) b), (12, .int .i64 (a.length : Int)), (13, .int .i64 st1)], hpGet [], gt⟩) 0 hw2 (zL [] [] []) ?_
   as_aux_lemma =>
    intro st1 x5 h hd4
    unfold linealref03_SameInts_b1 at h
    refine zo ?_
    refine zB [(0, .sl (.int .i64) a), (1, .sl (.int .i64) b), (12, .int .i64 (a.length : Int)), (13, .int .i64 st1), (14, .bool (decide (st1 < (a.length : Int))))] [] ?_
    refine AW.seq ?_
    refine zQ h (fun hb7 h => ?_) (fun hb7 h => ?_)
    ·refine zk ?_
     refine AW.seq ?_
     refine AW.block ?_
     refine zo ?_
     refine zB [(0, .sl (.int .i64) a), (1, .sl (.int .i64) b), (5, .int .i64 st1), (12, .int .i64 (a.length : Int)), (13, .int .i64 st1)] [] ?_
     refine AW.seq ?_
     refine AW.draw tab_ok mixed_ok [] [] (by decide) (lex_fast (by kernel_rfl)) ?_
     as_aux_lemma =>
      obtain ⟨c9, h⟩ := ck_some.1 h
      obtain ⟨c10, h⟩ := ck_some.1 h
      refine adops_cut 6 (fun K' hK8 => ?_)
      try dsimp only [List.drop_succ_cons, List.drop_zero, List.take_succ_cons, List.take_zero]
      simp only [go_sem, hb1, hb7]
      repeat with_reducible refine zN ?_
      refine hK8 _ ?_
      as_aux_lemma =>
       obtain ⟨c12, h⟩ := ck_some.1 h
       obtain ⟨c13, h⟩ := ck_some.1 h
       refine adops_cut 3 (fun K' hK11 => ?_)
       try dsimp only [List.drop_succ_cons, List.drop_zero, List.take_succ_cons, List.take_zero]
       simp only [go_sem, hb1, hb7]
       repeat with_reducible refine zN ?_
       refine hK11 _ ?_
       refine adops_nil ?_
       refine athen_n ?_
       refine zV [(0, .sl (.int .i64) a), (1, .sl (.int .i64) b), (12, .int .i64 (a.length : Int)), (13, .int .i64 st1), (24, .bool (!(decide ((a.getD st1.toNat 0) = (b.getD st1.toNat 0)))))] [] gt ?_
       as_aux_lemma =>
        refine zQ h (fun hb14 h => ?_) (fun hb14 h => ?_)
        ·refine zo ?_
         refine zB [(4, .bool false)] [] ?_
         refine AW.ret ?_
         refine ablock_r ?_
         refine athen_r ?_
         obtain rfl := Option.some.inj h
         rw [← hd4 _ rfl] at ho3
         have h := ho3
         try simp only at h
         refine athen_r ?_
         refine ablock_r ?_
         refine athen_r ?_
         obtain rfl := Option.some.inj h
         exact zR [] [] []
        ·refine zm ?_
         refine athen_n ?_
         refine AW.ops ?_
         obtain ⟨c15, h⟩ := ck_some.1 h
         refine zA [(0, .sl (.int .i64) a), (1, .sl (.int .i64) b), (12, .int .i64 (a.length : Int)), (13, .int .i64 (st1 + 1))] [] ?_
         obtain rfl := Option.some.inj h
         exact ⟨_, rfl, zL [] [] []⟩
    ·refine AW.exit ?_
     refine athen_e ?_
     obtain rfl := Option.some.inj h
     rw [← hd4 _ rfl] at ho3
     have h := ho3
     try simp only at h
     refine athen_e ?_
     refine ablock_s ?_
     refine athen_n ?_
     exact AW.weaken (zL [] [] []) (hk_linealref03_SameInts_k1 () h)

theorem hc_linealref03_SameLists (a : List (List Int)) (b : List (List Int)) {r : Bool} (h : linealref03_SameLists a b = some r) : HC Try.prog 11 [] [.sl (.sl (.int .i64)) a, .sl (.sl (.int .i64)) b] [] (.bool r) := by
 unfold linealref03_SameLists at h
 refine zH Try.func11 [.tmp 4] 27 ?_
 refine zo ?_
 refine zB [(0, .sl (.sl (.int .i64)) a), (1, .sl (.sl (.int .i64)) b)] [] ?_
 refine AW.seq ?_
 refine zo ?_
 refine zB [(0, .sl (.sl (.int .i64)) a), (1, .sl (.sl (.int .i64)) b), (10, .bool (!(decide ((a.length : Int) = (b.length : Int)))))] [] ?_
 refine zQ h (fun hb1 h => ?_) (fun hb1 h => ?_)
 ·refine zo ?_
  refine zB [(4, .bool false)] [] ?_
  refine zr ?_
  obtain rfl := Option.some.inj h
  exact zR [] [] []
 ·refine zk ?_
  refine AW.have1 (fun _ : Unit => linealref03_SameLists_k1 = some r) (fun _ => ⟨fr [], hpGet [], gt⟩) (fun _ h => ?_) (fun hk_linealref03_SameLists_k1 => ?_)
  ·as_aux_lemma =>
    unfold linealref03_SameLists_k1 at h
    refine zo ?_
    refine zB [(4, .bool true)] [] ?_
    refine AW.ret ?_
    obtain rfl := Option.some.inj h
    exact zR [] [] []
  ·refine AW.seq ?_
   refine zo ?_
   refine zB [(0, .sl (.sl (.int .i64)) a), (1, .sl (.sl (.int .i64)) b), (12, .int .i64 (a.length : Int)), (13, .int .i64 0)] [] ?_
   refine AW.block ?_
   obtain ⟨rv6, hw2, ho3⟩ := Option.bind_eq_some_iff.1 h
   refine AW.loopO (linealref03_SameLists_b1 a b) (fun st1 => ⟨fr [(0, .sl (.sl (.int .i64)) a), (1, .sl (.sl (.int .i64)) b), (12, .int .i64 (a.length : Int)), (13, .int .i64 st1)], hpGet [], gt⟩) 0 hw2 (zL [] [] []) ?_
   as_aux_lemma =>
    intro st1 x5 h hd4
    unfold linealref03_SameLists_b1 at h
    refine zo ?_
    refine zB [(0, .sl (.sl (.int .i64)) a), (1, .sl (.sl (.int .i64)) b), (12, .int .i64 (a.length : Int)), (13, .int .i64 st1), (14, .bool (decide (st1 < (a.length : Int))))] [] ?_
    refine AW.seq ?_
    refine zQ h (fun hb7 h => ?_) (fun hb7 h => ?_)
    ·refine zk ?_
     refine AW.seq ?_
     refine AW.block ?_
     refine zo ?_
     refine zB [(0, .sl (.sl (.int .i64)) a), (1, .sl (.sl (.int .i64)) b), (5, .int .i64 st1), (12, .int .i64 (a.length : Int)), (13, .int .i64 st1)] [] ?_
     refine AW.seq ?_
     refine AW.draw tab_ok mixed_ok [] [] (by decide) (lex_fast (by kernel_rfl)) ?_
     as_aux_lemma =>
      obtain ⟨c9, h⟩ := ck_some.1 h
      obtain ⟨c10, h⟩ := ck_some.1 h
      refine adops_cut 6 (fun K' hK8 => ?_)
      try dsimp only [List.drop_succ_cons, List.drop_zero, List.take_succ_cons, List.take_zero]
      simp only [go_sem, hb1, hb7]
      repeat with_reducible refine zN ?_
      refine hK8 _ ?_
      as_aux_lemma =>
       obtain ⟨c12, h⟩ := ck_some.1 h
       obtain ⟨c13, h⟩ := ck_some.1 h
       refine adops_cut 2 (fun K' hK11 => ?_)
       try dsimp only [List.drop_succ_cons, List.drop_zero, List.take_succ_cons, List.take_zero]
       simp only [go_sem, hb1, hb7]
       repeat with_reducible refine zN ?_
       refine hK11 _ ?_
       as_aux_lemma =>
        obtain ⟨v0, hv14, h⟩ := Option.bind_eq_some_iff.1 h
        refine adops.call (by first | trivial | rfl) rfl rfl rfl (fun _ h => h) [] [] (hc_linealref03_SameInts (a.getD st1.toNat []) (b.getD st1.toNat []) hv14) rfl (by (simp only [go_sem, hb1, hb7]) <;> (with_reducible and_intros) <;> first | assumption | rfl | omega | (unfold maxLen; omega)) (by (simp only [go_sem, hb1, hb7]) <;> (with_reducible and_intros) <;> first | assumption | rfl | omega | (unfold maxLen; omega)) rfl ?_
        refine adops_cut 1 (fun K' hK15 => ?_)
        try dsimp only [List.drop_succ_cons, List.drop_zero, List.take_succ_cons, List.take_zero]
        simp only [go_sem, hb1, hb7]
        repeat with_reducible refine zN ?_
        refine hK15 _ ?_
        refine adops_nil ?_
        refine athen_n ?_
        refine zV [(0, .sl (.sl (.int .i64)) a), (1, .sl (.sl (.int .i64)) b), (12, .int .i64 (a.length : Int)), (13, .int .i64 st1), (25, .bool (!v0))] [] gt ?_
        as_aux_lemma =>
         refine zQ h (fun hb16 h => ?_) (fun hb16 h => ?_)
         ·refine zo ?_
          refine zB [(4, .bool false)] [] ?_
          refine AW.ret ?_
          refine ablock_r ?_
          refine athen_r ?_
          obtain rfl := Option.some.inj h
          rw [← hd4 _ rfl] at ho3
          have h := ho3
          try simp only at h
          refine athen_r ?_
          refine ablock_r ?_
          refine athen_r ?_
          obtain rfl := Option.some.inj h
          exact zR [] [] []
         ·refine zm ?_
          refine athen_n ?_
          refine AW.ops ?_
          obtain ⟨c17, h⟩ := ck_some.1 h
          refine zA [(0, .sl (.sl (.int .i64)) a), (1, .sl (.sl (.int .i64)) b), (12, .int .i64 (a.length : Int)), (13, .int .i64 (st1 + 1))] [] ?_
          obtain rfl := Option.some.inj h
          exact ⟨_, rfl, zL [] [] []⟩
    ·refine AW.exit ?_
     refine athen_e ?_
     obtain rfl := Option.some.inj h
     rw [← hd4 _ rfl] at ho3
     have h := ho3
     try simp only at h
     refine athen_e ?_
     refine ablock_s ?_
     refine athen_n ?_
     exact AW.weaken (zL [] [] []) (hk_linealref03_SameLists_k1 () h)

theorem hc_weave_First (l : Int × (List (Int × Int))) (w : List Int) {r : (List Int) × Int} (h : weave_First l w = some r) : HC Try.prog 12 [] [.agg [.int .i64 l.1, .sl (.pair (.int .i64) (.int .i64)) l.2], .sl (.int .i64) w] [] (.tup [.sl (.int .i64) r.1, .int .i64 r.2]) := by
 unfold weave_First at h
 refine zH Try.func12 [.tmp 4, .tmp 5] 21 ?_
 refine zo ?_
 refine zB [(1, .sl (.int .i64) w), (2, .bp 2 0)] [(2, .box 24 [.int .i64 l.1, .sl (.pair (.int .i64) (.int .i64)) l.2])] ?_
 refine zo ?_
 refine zS 3 [(1, .sl (.int .i64) w), (9, .agg [.int .i64 l.1, .sl (.pair (.int .i64) (.int .i64)) l.2]), (11, .own 11)] [(11, .arr 25 (.sl (.int .i64)) [w])] ?_
 obtain ⟨v0, hv1, h⟩ := Option.bind_eq_some_iff.1 h
 refine zC [11] [] (hc_weave_checked l [w] hv1) [(1, .sl (.int .i64) w), (12, .tup [.agg (cellsX T53 v0.1), .int .i64 v0.2])] [] ?_
 refine zS 5 [(1, .sl (.int .i64) w), (6, .bp 6 0), (14, .int .i64 v0.2)] [(6, .box 53 (cellsX T53 v0.1))] ?_
 refine zB [(1, .sl (.int .i64) w), (6, .bp 6 0), (7, .int .i64 v0.2)] [(6, .box 53 (cellsX T53 v0.1))] ?_
 refine AW.seq ?_
 refine zo ?_
 refine zB [(1, .sl (.int .i64) w), (6, .bp 6 0), (7, .int .i64 v0.2), (16, .bool (!(decide (v0.2 = 0))))] [(6, .box 53 (cellsX T53 v0.1))] ?_
 refine zQ h (fun hb2 h => ?_) (fun hb2 h => ?_)
 ·refine zo ?_
  refine zB [(4, .cv (.slice none 0 0)), (5, .int .i64 v0.2)] [] ?_
  refine zr ?_
  obtain rfl := Option.some.inj h
  exact zR [] [] []
 ·refine zk ?_
  refine zo ?_
  refine zS 2 [(18, .agg (cellsX T53 v0.1)), (19, .sl (.int .i64) w)] [] ?_
  obtain ⟨v0_2, hv3, h⟩ := Option.bind_eq_some_iff.1 h
  refine zC [] [] (hc_weave_ties_first v0.1 w hv3) [(20, .sl (.int .i64) v0_2)] [] ?_
  refine zB [(4, .sl (.int .i64) v0_2), (5, .int .i64 0)] [] ?_
  refine AW.ret ?_
  obtain rfl := Option.some.inj h
  exact zR [] [] []

theorem hc_slices_Clone (s : List Int) {r : (List Int)} (h : slices_Clone s = some r) : HC Try.prog 43 [] [.sl (.int .i64) s] [(2000, .arr 3 (.int .i64) r)] (.own 2000) := by
 unfold slices_Clone at h
 refine zH Try.func43 [.tmp 2] 8 ?_
 refine zo ?_
 refine zB [(0, .sl (.int .i64) s)] [] ?_
 refine AW.seq ?_
 refine zo ?_
 refine zS 1 [(0, .sl (.int .i64) s), (3, .sl (.int .i64) s)] [] ?_
 refine AO.nilEq (neg := false) tab_ok (by decide) rfl rfl tab_25 rfl rfl rfl (fun hnil1 => ?_) ?_
 ·have h : (some []) = some r := by
   first | (simp only [hnil1] at h ⊢; simpa [ck] using h) | (simp [hnil1, ck] at h ⊢; first | done | exact h)
  refine zT [(0, .sl (.int .i64) s), (4, .bool true)] [] gt ?_
  refine zB [(0, .sl (.int .i64) s), (4, .bool true)] [] ?_
  refine AW.cond (b := true) rfl (fun _ => ?_) (fun hb2 => by cases hb2)
  refine zo ?_
  refine zB [(2, .cv (.slice none 0 0))] [] ?_
  refine zr ?_
  obtain rfl := Option.some.inj h
  exact zR [] [2000] []
 ·refine zT [(0, .sl (.int .i64) s), (4, .bool false)] [] gt ?_
  refine zB [(0, .sl (.int .i64) s), (4, .bool false)] [] ?_
  refine AW.cond (b := false) rfl (fun hb3 => by cases hb3) (fun _ => ?_)
  refine zk ?_
  refine zo ?_
  obtain ⟨c4, h⟩ := ck_some.1 h
  refine zB [(2, .own 7)] [(7, .arr 3 (.int .i64) s)] ?_
  refine AW.ret ?_
  obtain rfl := Option.some.inj h
  exact zR [] [] [(2000, 7)]

theorem hc_weave_ties_exchange (t : (El T53)) (at0 : Int) (w : List Int) {r : Bool × (List Int)} (h : weave_ties_exchange t at0 w = some r) : HC Try.prog 52 [(1000, .arr 3 (.int .i64) w)] [.agg (cellsX T53 t), .own 1000, .int .i64 at0] [(1000, .arr 3 (.int .i64) r.2)] (.bool r.1) := by
 unfold weave_ties_exchange at h
 refine zH Try.func52 [.tmp 6] 46 ?_
 refine zo ?_
 refine zB [(1, .own 1000), (2, .int .i64 at0), (3, .bp 3 0)] [(3, .box 53 (cellsX T53 t)), (1000, .arr 3 (.int .i64) w)] ?_
 refine AW.seq ?_
 refine AW.seq ?_
 refine AW.draw tab_ok mixed_ok [] [] (by decide) (lex_fast (by kernel_rfl)) ?_
 as_aux_lemma =>
  refine adops_cut 3 (fun K' hK1 => ?_)
  try dsimp only [List.drop_succ_cons, List.drop_zero, List.take_succ_cons, List.take_zero]
  simp only [go_sem]
  repeat with_reducible refine zN ?_
  refine hK1 _ ?_
  as_aux_lemma =>
   rcases zI h with ⟨hb2, h⟩ | ⟨hb2, h⟩
   ·simp only [hb2]
    as_aux_lemma =>
     refine adops_cut 4 (fun K' hK3 => ?_)
     try dsimp only [List.drop_succ_cons, List.drop_zero, List.take_succ_cons, List.take_zero]
     simp only [go_sem, hb2]
     repeat with_reducible refine zN ?_
     refine hK3 _ ?_
     as_aux_lemma =>
      refine adops_cut 6 (fun K' hK4 => ?_)
      try dsimp only [List.drop_succ_cons, List.drop_zero, List.take_succ_cons, List.take_zero]
      simp only [go_sem, hb2]
      repeat with_reducible refine zN ?_
      refine hK4 _ ?_
      as_aux_lemma =>
       refine adops_cut 4 (fun K' hK5 => ?_)
       try dsimp only [List.drop_succ_cons, List.drop_zero, List.take_succ_cons, List.take_zero]
       simp only [go_sem, hb2]
       repeat with_reducible refine zN ?_
       refine hK5 _ ?_
       as_aux_lemma =>
        refine adops_cut 4 (fun K' hK6 => ?_)
        try dsimp only [List.drop_succ_cons, List.drop_zero, List.take_succ_cons, List.take_zero]
        simp only [go_sem, hb2]
        repeat with_reducible refine zN ?_
        refine hK6 _ ?_
        as_aux_lemma =>
         refine adops_cut 2 (fun K' hK7 => ?_)
         try dsimp only [List.drop_succ_cons, List.drop_zero, List.take_succ_cons, List.take_zero]
         simp only [go_sem, hb2]
         repeat with_reducible refine zN ?_
         refine hK7 _ ?_
         refine adops_nil ?_
         refine athen_n ?_
         refine zV [(1, .own 1000), (2, .int .i64 at0), (29, .bool true)] [(1000, .arr 3 (.int .i64) w)] gt ?_
         as_aux_lemma =>
          refine AW.cond (b := true) rfl (fun _ => ?_) (fun hb8 => by cases hb8)
          refine zo ?_
          refine zB [(6, .bool false)] [(1000, .arr 3 (.int .i64) w)] ?_
          refine zr ?_
          obtain rfl := Option.some.inj h
          exact zR [] [] []
   ·simp only [hb2]
    as_aux_lemma =>
     obtain ⟨c10, h⟩ := ck_some.1 h
     refine adops_cut 6 (fun K' hK9 => ?_)
     try dsimp only [List.drop_succ_cons, List.drop_zero, List.take_succ_cons, List.take_zero]
     simp only [go_sem, hb2]
     repeat with_reducible refine zN ?_
     refine hK9 _ ?_
     as_aux_lemma =>
      refine adops_cut 1 (fun K' hK11 => ?_)
      try dsimp only [List.drop_succ_cons, List.drop_zero, List.take_succ_cons, List.take_zero]
      simp only [go_sem, hb2]
      repeat with_reducible refine zN ?_
      refine hK11 _ ?_
      as_aux_lemma =>
       rcases zI h with ⟨hb12, h⟩ | ⟨hb12, h⟩
       ·simp only [hb12]
        as_aux_lemma =>
         refine adops_cut 4 (fun K' hK13 => ?_)
         try dsimp only [List.drop_succ_cons, List.drop_zero, List.take_succ_cons, List.take_zero]
         simp only [go_sem, hb2, hb12]
         repeat with_reducible refine zN ?_
         refine hK13 _ ?_
         as_aux_lemma =>
          refine adops_cut 4 (fun K' hK14 => ?_)
          try dsimp only [List.drop_succ_cons, List.drop_zero, List.take_succ_cons, List.take_zero]
          simp only [go_sem, hb2, hb12]
          repeat with_reducible refine zN ?_
          refine hK14 _ ?_
          as_aux_lemma =>
           refine adops_cut 4 (fun K' hK15 => ?_)
           try dsimp only [List.drop_succ_cons, List.drop_zero, List.take_succ_cons, List.take_zero]
           simp only [go_sem, hb2, hb12]
           repeat with_reducible refine zN ?_
           refine hK15 _ ?_
           as_aux_lemma =>
            refine adops_cut 1 (fun K' hK16 => ?_)
            try dsimp only [List.drop_succ_cons, List.drop_zero, List.take_succ_cons, List.take_zero]
            simp only [go_sem, hb2, hb12]
            repeat with_reducible refine zN ?_
            refine hK16 _ ?_
            refine adops_nil ?_
            refine athen_n ?_
            refine zV [(1, .own 1000), (2, .int .i64 at0), (29, .bool true)] [(1000, .arr 3 (.int .i64) w)] gt ?_
            as_aux_lemma =>
             refine AW.cond (b := true) rfl (fun _ => ?_) (fun hb17 => by cases hb17)
             refine zo ?_
             refine zB [(6, .bool false)] [(1000, .arr 3 (.int .i64) w)] ?_
             refine zr ?_
             obtain rfl := Option.some.inj h
             exact zR [] [] []
       ·simp only [hb12]
        as_aux_lemma =>
         obtain ⟨c19, h⟩ := ck_some.1 h
         obtain ⟨c20, h⟩ := ck_some.1 h
         refine adops_cut 6 (fun K' hK18 => ?_)
         try dsimp only [List.drop_succ_cons, List.drop_zero, List.take_succ_cons, List.take_zero]
         simp only [go_sem, hb2, hb12]
         repeat with_reducible refine zN ?_
         refine hK18 _ ?_
         as_aux_lemma =>
          obtain ⟨c22, h⟩ := ck_some.1 h
          obtain ⟨c23, h⟩ := ck_some.1 h
          obtain ⟨c24, h⟩ := ck_some.1 h
          obtain ⟨c25, h⟩ := ck_some.1 h
          obtain ⟨c26, h⟩ := ck_some.1 h
          obtain ⟨c27, h⟩ := ck_some.1 h
          obtain ⟨c28, h⟩ := ck_some.1 h
          have hx29 : ((0 + (w.getD at0.toNat 0).toNat * 6) + (w.getD (at0 + 1).toNat 0).toNat * 1) < 36 := by omega
          refine adops_cut 6 (fun K' hK21 => ?_)
          try dsimp only [List.drop_succ_cons, List.drop_zero, List.take_succ_cons, List.take_zero]
          simp only [go_sem, hb2, hb12, hx29]
          repeat with_reducible refine zN ?_
          refine hK21 _ ?_
          as_aux_lemma =>
           refine adops_cut 1 (fun K' hK30 => ?_)
           try dsimp only [List.drop_succ_cons, List.drop_zero, List.take_succ_cons, List.take_zero]
           simp only [go_sem, hb2, hb12, hx29]
           repeat with_reducible refine zN ?_
           refine hK30 _ ?_
           refine adops_nil ?_
           refine athen_n ?_
           refine zV [(1, .own 1000), (2, .int .i64 at0), (29, .bool (boolAt T53 t ((0 + (w.getD at0.toNat 0).toNat * 6) + (w.getD (at0 + 1).toNat 0).toNat * 1)))] [(1000, .arr 3 (.int .i64) w)] gt ?_
           as_aux_lemma =>
            refine zQ h (fun hb31 h => ?_) (fun hb31 h => ?_)
            ·refine zo ?_
             refine zB [(6, .bool false)] [(1000, .arr 3 (.int .i64) w)] ?_
             refine zr ?_
             obtain rfl := Option.some.inj h
             exact zR [] [] []
            ·refine zk ?_
             refine AW.seq ?_
             refine AW.draw tab_ok mixed_ok [(15, [1000]), (17, [1000])] [(2, [1000]), (3, []), (4, []), (100015, []), (100017, [])] (by decide) (lex_fast (by kernel_rfl)) ?_
             as_aux_lemma =>
              obtain ⟨c33, h⟩ := ck_some.1 h
              refine adops_cut 6 (fun K' hK32 => ?_)
              try dsimp only [List.drop_succ_cons, List.drop_zero, List.take_succ_cons, List.take_zero]
              simp only [go_sem, hb2, hb12, hx29, hb31]
              repeat with_reducible refine zN ?_
              refine hK32 _ ?_
              as_aux_lemma =>
               obtain ⟨c35, h⟩ := ck_some.1 h
               obtain ⟨c36, h⟩ := ck_some.1 h
               obtain ⟨c37, h⟩ := ck_some.1 h
               refine adops_cut 6 (fun K' hK34 => ?_)
               try dsimp only [List.drop_succ_cons, List.drop_zero, List.take_succ_cons, List.take_zero]
               simp only [go_sem, hb2, hb12, hx29, hb31]
               repeat with_reducible refine zN ?_
               refine hK34 _ ?_
               as_aux_lemma =>
                obtain ⟨c39, h⟩ := ck_some.1 h
                obtain ⟨c40, h⟩ := ck_some.1 h
                obtain ⟨c41, h⟩ := ck_some.1 h
                obtain ⟨c42, h⟩ := ck_some.1 h
                obtain ⟨c43, h⟩ := ck_some.1 h
                obtain ⟨c44, h⟩ := ck_some.1 h
                refine adops_cut 6 (fun K' hK38 => ?_)
                try dsimp only [List.drop_succ_cons, List.drop_zero, List.take_succ_cons, List.take_zero]
                simp only [go_sem, hb2, hb12, hx29, hb31]
                repeat with_reducible refine zN ?_
                refine hK38 _ ?_
                refine adops_nil ?_
                refine athen_n ?_
                refine zV [] [(1000, .arr 3 (.int .i64) ((w.set at0.toNat (w.getD (at0 + 1).toNat 0)).set (at0 + 1).toNat (w.getD at0.toNat 0)))] gt ?_
                as_aux_lemma =>
                 refine zo ?_
                 refine zB [(6, .bool true)] [(1000, .arr 3 (.int .i64) ((w.set at0.toNat (w.getD (at0 + 1).toNat 0)).set (at0 + 1).toNat (w.getD at0.toNat 0)))] ?_
                 refine AW.ret ?_
                 obtain rfl := Option.some.inj h
                 exact zR [] [] []

end Go.Proofs.Ytabchabbdnhjpaa
