/-
  Made by wip/tool/dc.py out of the print of the program: contracts.
-/
import Derived.Test.YtdicomoggfhbfaaDlp
import Derived.Test.YtdicomoggfhbfaaShd
import Derived.Test.YtdicomoggfhbfaaDic3
namespace Go.Proofs.Ytdicomoggfhbfaa
open Go.RowKit

set_option linter.unusedSimpArgs false
set_option linter.unusedVariables false
set_option linter.constructorNameAsVariable false

set_option maxRecDepth 100000
set_option maxHeartbeats 40000000

theorem hc_linealref09_AreThreads (n : Int) (l : List Int) {r : Bool} (h : linealref09_AreThreads n l = some r) : HC Try.prog 60 [] [.int .i64 n, .sl (.int .i64) l] [] (.bool r) := by
 unfold linealref09_AreThreads at h
 refine zH Try.func60 [.tmp 4] 40 ?_
 refine zo ?_
 refine zB [(0, .int .i64 n), (1, .sl (.int .i64) l)] [] ?_
 refine AW.have1 (fun _ : Unit => linealref09_AreThreads_k1 n l = some r) (fun _ => ⟨fr [(0, .int .i64 n), (1, .sl (.int .i64) l)], hpGet [], gt⟩) (fun _ h => ?_) (fun hk_linealref09_AreThreads_k1 => ?_)
 ·as_aux_lemma =>
   unfold linealref09_AreThreads_k1 at h
   refine zo ?_
   refine zB [(4, .bool (decide ((l.length : Int) = n)))] [] ?_
   refine AW.ret ?_
   obtain rfl := Option.some.inj h
   exact zR [] [] []
 ·refine AW.seq ?_
  refine zo ?_
  refine zB [(0, .int .i64 n), (1, .sl (.int .i64) l), (9, .sl (.int .i64) l), (10, .int .i64 (l.length : Int)), (11, .int .i64 0)] [] ?_
  refine AW.block ?_
  obtain ⟨rv5, hw1, ho2⟩ := Option.bind_eq_some_iff.1 h
  refine AW.loopO (linealref09_AreThreads_b1 n l) (fun st1 => ⟨fr [(0, .int .i64 n), (1, .sl (.int .i64) l), (9, .sl (.int .i64) l), (10, .int .i64 (l.length : Int)), (11, .int .i64 st1)], hpGet [], gt⟩) 0 hw1 (zL [] [] []) ?_
  as_aux_lemma =>
   intro st1 x4 h hd3
   unfold linealref09_AreThreads_b1 at h
   refine zo ?_
   refine zB [(0, .int .i64 n), (1, .sl (.int .i64) l), (9, .sl (.int .i64) l), (10, .int .i64 (l.length : Int)), (11, .int .i64 st1), (12, .bool (decide (st1 < (l.length : Int))))] [] ?_
   refine AW.seq ?_
   refine zQ h (fun hb6 h => ?_) (fun hb6 h => ?_)
   ·refine zk ?_
    refine AW.have1 (fun _ : Unit => linealref09_AreThreads_k2 st1 = some x4) (fun _ => ⟨fr [(0, .int .i64 n), (1, .sl (.int .i64) l), (9, .sl (.int .i64) l), (10, .int .i64 (l.length : Int)), (11, .int .i64 st1)], hpGet [], gt⟩) (fun _ h => ?_) (fun hk_linealref09_AreThreads_k2 => ?_)
    ·as_aux_lemma =>
      unfold linealref09_AreThreads_k2 at h
      refine AW.ops ?_
      obtain ⟨c7, h⟩ := ck_some.1 h
      refine zA [(0, .int .i64 n), (1, .sl (.int .i64) l), (9, .sl (.int .i64) l), (10, .int .i64 (l.length : Int)), (11, .int .i64 (st1 + 1))] [] ?_
      obtain rfl := Option.some.inj h
      exact ⟨_, rfl, zL [] [] []⟩
    ·refine AW.seq ?_
     refine AW.block ?_
     refine zo ?_
     obtain ⟨c8, h⟩ := ck_some.1 h
     obtain ⟨c9, h⟩ := ck_some.1 h
     refine zB [(0, .int .i64 n), (1, .sl (.int .i64) l), (5, .int .i64 st1), (6, .int .i64 (l.getD st1.toNat 0)), (9, .sl (.int .i64) l), (10, .int .i64 (l.length : Int)), (11, .int .i64 st1)] [] ?_
     refine AW.seq ?_
     refine zo ?_
     refine zS 3 [(0, .int .i64 n), (1, .sl (.int .i64) l), (5, .int .i64 st1), (6, .int .i64 (l.getD st1.toNat 0)), (9, .sl (.int .i64) l), (10, .int .i64 (l.length : Int)), (11, .int .i64 st1), (18, .bool (decide ((l.getD st1.toNat 0) < 0)))] [] ?_
     rcases zI h with ⟨hb10, h⟩ | ⟨hb10, h⟩
     ·refine zB [(0, .int .i64 n), (1, .sl (.int .i64) l), (5, .int .i64 st1), (6, .int .i64 (l.getD st1.toNat 0)), (9, .sl (.int .i64) l), (10, .int .i64 (l.length : Int)), (11, .int .i64 st1), (22, .bool true)] [] ?_
      refine AW.cond (b := true) rfl (fun _ => ?_) (fun hb11 => by cases hb11)
      refine zo ?_
      refine zB [(4, .bool false)] [] ?_
      refine zr ?_
      refine ablock_r ?_
      refine athen_r ?_
      obtain rfl := Option.some.inj h
      try rw [← hd3 _ rfl] at ho2
      have h := ho2
      try simp only at h
      refine athen_r ?_
      refine ablock_r ?_
      refine athen_r ?_
      obtain rfl := Option.some.inj h
      exact zR [] [] []
     ·refine zB [(0, .int .i64 n), (1, .sl (.int .i64) l), (5, .int .i64 st1), (6, .int .i64 (l.getD st1.toNat 0)), (9, .sl (.int .i64) l), (10, .int .i64 (l.length : Int)), (11, .int .i64 st1), (22, .bool (decide (n ≤ (l.getD st1.toNat 0))))] [] ?_
      refine zQ h (fun hb12 h => ?_) (fun hb12 h => ?_)
      ·refine zo ?_
       refine zB [(4, .bool false)] [] ?_
       refine zr ?_
       refine ablock_r ?_
       refine athen_r ?_
       obtain rfl := Option.some.inj h
       try rw [← hd3 _ rfl] at ho2
       have h := ho2
       try simp only at h
       refine athen_r ?_
       refine ablock_r ?_
       refine athen_r ?_
       obtain rfl := Option.some.inj h
       exact zR [] [] []
      ·refine zk ?_
       refine zo ?_
       obtain ⟨c13, h⟩ := ck_some.1 h
       obtain ⟨c14, h⟩ := ck_some.1 h
       refine zB [(0, .int .i64 n), (1, .sl (.int .i64) l), (6, .int .i64 (l.getD st1.toNat 0)), (9, .sl (.int .i64) l), (10, .int .i64 (l.length : Int)), (11, .int .i64 st1), (25, .sl (.int .i64) (l.take st1.toNat)), (26, .int .i64 ((l.take st1.toNat).length : Int)), (27, .int .i64 0)] [] ?_
       refine AW.block ?_
       obtain ⟨rv19, hw15, ho16⟩ := Option.bind_eq_some_iff.1 h
       refine AW.loopO (linealref09_AreThreads_b2 l st1) (fun st2 => ⟨fr [(0, .int .i64 n), (1, .sl (.int .i64) l), (6, .int .i64 (l.getD st1.toNat 0)), (9, .sl (.int .i64) l), (10, .int .i64 (l.length : Int)), (11, .int .i64 st1), (25, .sl (.int .i64) (l.take st1.toNat)), (26, .int .i64 ((l.take st1.toNat).length : Int)), (27, .int .i64 st2)], hpGet [], gt⟩) 0 hw15 (zL [] [] []) ?_
       as_aux_lemma =>
        intro st2 x18 h hd17
        unfold linealref09_AreThreads_b2 at h
        refine zo ?_
        refine zB [(0, .int .i64 n), (1, .sl (.int .i64) l), (6, .int .i64 (l.getD st1.toNat 0)), (9, .sl (.int .i64) l), (10, .int .i64 (l.length : Int)), (11, .int .i64 st1), (25, .sl (.int .i64) (l.take st1.toNat)), (26, .int .i64 ((l.take st1.toNat).length : Int)), (27, .int .i64 st2), (28, .bool (decide (st2 < ((l.take st1.toNat).length : Int))))] [] ?_
        refine AW.seq ?_
        refine zQ h (fun hb20 h => ?_) (fun hb20 h => ?_)
        ·refine zk ?_
         refine AW.seq ?_
         refine AW.block ?_
         refine zo ?_
         obtain ⟨c21, h⟩ := ck_some.1 h
         obtain ⟨c22, h⟩ := ck_some.1 h
         refine zB [(0, .int .i64 n), (1, .sl (.int .i64) l), (6, .int .i64 (l.getD st1.toNat 0)), (8, .int .i64 ((l.take st1.toNat).getD st2.toNat 0)), (9, .sl (.int .i64) l), (10, .int .i64 (l.length : Int)), (11, .int .i64 st1), (25, .sl (.int .i64) (l.take st1.toNat)), (26, .int .i64 ((l.take st1.toNat).length : Int)), (27, .int .i64 st2)] [] ?_
         refine zo ?_
         refine zB [(0, .int .i64 n), (1, .sl (.int .i64) l), (6, .int .i64 (l.getD st1.toNat 0)), (9, .sl (.int .i64) l), (10, .int .i64 (l.length : Int)), (11, .int .i64 st1), (25, .sl (.int .i64) (l.take st1.toNat)), (26, .int .i64 ((l.take st1.toNat).length : Int)), (27, .int .i64 st2), (33, .bool (decide ((l.getD st1.toNat 0) = ((l.take st1.toNat).getD st2.toNat 0))))] [] ?_
         refine zQ h (fun hb23 h => ?_) (fun hb23 h => ?_)
         ·refine zo ?_
          refine zB [(4, .bool false)] [] ?_
          refine AW.ret ?_
          refine ablock_r ?_
          refine athen_r ?_
          obtain rfl := Option.some.inj h
          try rw [← hd17 _ rfl] at ho16
          have h := ho16
          try simp only at h
          refine athen_r ?_
          refine ablock_r ?_
          refine ablock_r ?_
          refine athen_r ?_
          obtain rfl := Option.some.inj h
          try rw [← hd3 _ rfl] at ho2
          have h := ho2
          try simp only at h
          refine athen_r ?_
          refine ablock_r ?_
          refine athen_r ?_
          obtain rfl := Option.some.inj h
          exact zR [] [] []
         ·refine zm ?_
          refine athen_n ?_
          refine AW.ops ?_
          obtain ⟨c24, h⟩ := ck_some.1 h
          refine zA [(0, .int .i64 n), (1, .sl (.int .i64) l), (6, .int .i64 (l.getD st1.toNat 0)), (9, .sl (.int .i64) l), (10, .int .i64 (l.length : Int)), (11, .int .i64 st1), (25, .sl (.int .i64) (l.take st1.toNat)), (26, .int .i64 ((l.take st1.toNat).length : Int)), (27, .int .i64 (st2 + 1))] [] ?_
          obtain rfl := Option.some.inj h
          exact ⟨_, rfl, zL [] [] []⟩
        ·refine AW.exit ?_
         refine athen_e ?_
         obtain rfl := Option.some.inj h
         try rw [← hd17 _ rfl] at ho16
         have h := ho16
         try simp only at h
         refine athen_e ?_
         refine ablock_s ?_
         refine ablock_n ?_
         refine athen_n ?_
         exact AW.weaken (zL [] [] []) (hk_linealref09_AreThreads_k2 () h)
   ·refine AW.exit ?_
    refine athen_e ?_
    obtain rfl := Option.some.inj h
    try rw [← hd3 _ rfl] at ho2
    have h := ho2
    try simp only at h
    refine athen_e ?_
    refine ablock_s ?_
    refine athen_n ?_
    exact AW.weaken (zL [] [] []) (hk_linealref09_AreThreads_k1 () h)

theorem hc_delay_accesses_found (x0 : List (List (Int × Bool))) {r : (List ((Int × Int × Int) × (List (Int × Int × Int))))} (h : delay_accesses_found x0 = some r) : HC Try.prog 78 [] [.sl (.sl (.pair (.int .i64) .bool)) x0] [(2000, .map true false (.pair (.int .i64) (.pair (.int .i64) (.int .i64))) (.sl (.pair (.int .i64) (.pair (.int .i64) (.int .i64)))) r)] (.own 2000) := by
 unfold delay_accesses_found at h
 refine zH Try.func78 [.tmp 2] 26 ?_
 refine zo ?_
 refine zB [(0, .sl (.sl (.pair (.int .i64) .bool)) x0)] [] ?_
 refine zo ?_
 refine AO.makeMap (ak := true) (ae := false) (kt := (.pair (.int .i64) (.pair (.int .i64) (.int .i64)))) (vt := (.sl (.pair (.int .i64) (.pair (.int .i64) (.int .i64))))) (by decide) (by decide) rfl rfl ?_
 refine zT [(0, .sl (.sl (.pair (.int .i64) .bool)) x0), (7, .own 7)] [(7, .map true false (.pair (.int .i64) (.pair (.int .i64) (.int .i64))) (.sl (.pair (.int .i64) (.pair (.int .i64) (.int .i64)))) [])] gt ?_
 refine zB [(0, .sl (.sl (.pair (.int .i64) .bool)) x0), (3, .bp 3 0)] [(3, .box 93 [.own 7]), (7, .map true false (.pair (.int .i64) (.pair (.int .i64) (.int .i64))) (.sl (.pair (.int .i64) (.pair (.int .i64) (.int .i64)))) [])] ?_
 refine AW.have1 (fun b1 : (List ((Int × Int × Int) × (List (Int × Int × Int)))) => delay_accesses_found_k1 b1 = some r) (fun b1 => ⟨fr [(3, .bp 3 0)], hpGet [(3, .box 93 [.own 7]), (7, .map true false (.pair (.int .i64) (.pair (.int .i64) (.int .i64))) (.sl (.pair (.int .i64) (.pair (.int .i64) (.int .i64)))) b1)], gt⟩) (fun b1 h => ?_) (fun hk_delay_accesses_found_k1 => ?_)
 ·as_aux_lemma =>
   unfold delay_accesses_found_k1 at h
   refine zo ?_
   refine zB [(2, .own 7)] [(7, .map true false (.pair (.int .i64) (.pair (.int .i64) (.int .i64))) (.sl (.pair (.int .i64) (.pair (.int .i64) (.int .i64)))) b1)] ?_
   refine AW.ret ?_
   obtain rfl := Option.some.inj h
   exact zR [] [] [(2000, 7)]
 ·refine AW.seq ?_
  refine zo ?_
  refine zB [(3, .bp 3 0), (9, .fn (.func 73) [.sl (.sl (.pair (.int .i64) .bool)) x0] [])] [(3, .box 93 [.own 7]), (7, .map true false (.pair (.int .i64) (.pair (.int .i64) (.int .i64))) (.sl (.pair (.int .i64) (.pair (.int .i64) (.int .i64)))) [])] ?_
  refine AW.block ?_
  obtain ⟨x1, hx2, h⟩ := Option.bind_eq_some_iff.1 h
  refine AW.weaken (s' := ⟨fr [(3, .bp 3 0), (9, .fn (.func 73) [.sl (.sl (.pair (.int .i64) .bool)) x0] [])], hpGet ([] ++ [(3, .box 93 [.own 7]), (7, .map true false (.pair (.int .i64) (.pair (.int .i64) (.int .i64))) (.sl (.pair (.int .i64) (.pair (.int .i64) (.int .i64)))) [])]), gt⟩) (zL [] [] []) ?_
  refine AW.rangeF (R := Empty) (l0 := [(3, .bp 3 0)]) (hI := []) (h0 := fun (st1 : (List ((Int × Int × Int) × (List (Int × Int × Int))))) => [(3, .box 93 [.own 7]), (7, .map true false (.pair (.int .i64) (.pair (.int .i64) (.int .i64))) (.sl (.pair (.int .i64) (.pair (.int .i64) (.int .i64)))) st1)]) (gg := fun (st1 : (List ((Int × Int × Int) × (List (Int × Int × Int))))) => gt) (hx0 := (fun (r : Empty) => r.elim)) (gx := (fun (r : Empty) => r.elim)) (ex := (fun (r : Empty) => r.elim)) [] [] [] [(3, 1900)] [(1900, 3)] (by decide) rfl (by first | exact (ic_delay_accesses_circles x0 (delay_accesses_found_y1) [] hx2) | simpa only [go_sem] using (ic_delay_accesses_circles x0 (delay_accesses_found_y1) [] hx2)) (by (simp only [go_sem]) <;> (with_reducible and_intros) <;> first | assumption | rfl | omega | (unfold maxLen; omega)) rfl rfl rfl (fun _ => rfl) rfl (fun r => r.elim) rfl (fun r => r.elim) (fun r => r.elim) (fun _ => rfl) (fun _ => rfl) rfl (fun _ _ => by first | rfl | (exact (hΓ _).trans (hΓ _).symm) | (exact (hΓx _).trans (hΓ _).symm)) (fun _ r => r.elim) ?_ ?_
  ·intro lpy1 y1 st1 x3 h
   unfold delay_accesses_found_y1 at h
   refine zV [(3, .bp 1900 0), (10, .sl (.pair (.int .i64) (.pair (.int .i64) (.int .i64))) y1)] [(7, .map true false (.pair (.int .i64) (.pair (.int .i64) (.int .i64))) (.sl (.pair (.int .i64) (.pair (.int .i64) (.int .i64)))) st1), (1900, .box 93 [.own 7])] gt ?_
   refine AW.ops ?_
   refine zA [(3, .bp 1900 0), (4, .sl (.pair (.int .i64) (.pair (.int .i64) (.int .i64))) y1)] [(7, .map true false (.pair (.int .i64) (.pair (.int .i64) (.int .i64))) (.sl (.pair (.int .i64) (.pair (.int .i64) (.int .i64)))) st1), (1900, .box 93 [.own 7])] ?_
   refine And.intro rfl ?_
   refine AW.block ?_
   refine zo ?_
   refine zB [(3, .bp 1900 0), (4, .sl (.pair (.int .i64) (.pair (.int .i64) (.int .i64))) y1), (11, .sl (.pair (.int .i64) (.pair (.int .i64) (.int .i64))) y1), (12, .int .i64 (y1.length : Int)), (13, .int .i64 0)] [(7, .map true false (.pair (.int .i64) (.pair (.int .i64) (.int .i64))) (.sl (.pair (.int .i64) (.pair (.int .i64) (.int .i64)))) st1), (1900, .box 93 [.own 7])] ?_
   refine AW.block ?_
   obtain ⟨rv8, hw4, ho5⟩ := Option.bind_eq_some_iff.1 h
   refine AW.loopO (delay_accesses_found_b2 y1) (fun st2 => ⟨fr [(3, .bp 1900 0), (4, .sl (.pair (.int .i64) (.pair (.int .i64) (.int .i64))) y1), (11, .sl (.pair (.int .i64) (.pair (.int .i64) (.int .i64))) y1), (12, .int .i64 (y1.length : Int)), (13, .int .i64 st2.2)], hpGet [(7, .map true false (.pair (.int .i64) (.pair (.int .i64) (.int .i64))) (.sl (.pair (.int .i64) (.pair (.int .i64) (.int .i64)))) st2.1), (1900, .box 93 [.own 7])], gt⟩) (st1, 0) hw4 (zL [] [] []) ?_
   as_aux_lemma =>
    intro st2 x7 h hd6
    unfold delay_accesses_found_b2 at h
    refine zo ?_
    refine zB [(3, .bp 1900 0), (4, .sl (.pair (.int .i64) (.pair (.int .i64) (.int .i64))) y1), (11, .sl (.pair (.int .i64) (.pair (.int .i64) (.int .i64))) y1), (12, .int .i64 (y1.length : Int)), (13, .int .i64 st2.2), (14, .bool (decide (st2.2 < (y1.length : Int))))] [(7, .map true false (.pair (.int .i64) (.pair (.int .i64) (.int .i64))) (.sl (.pair (.int .i64) (.pair (.int .i64) (.int .i64)))) st2.1), (1900, .box 93 [.own 7])] ?_
    refine AW.seq ?_
    refine zQ h (fun hb9 h => ?_) (fun hb9 h => ?_)
    ·refine zk ?_
     refine AW.seq ?_
     refine AW.block ?_
     refine zo ?_
     obtain ⟨c10, h⟩ := ck_some.1 h
     obtain ⟨c11, h⟩ := ck_some.1 h
     refine zB [(3, .bp 1900 0), (4, .sl (.pair (.int .i64) (.pair (.int .i64) (.int .i64))) y1), (6, .bp 6 0), (11, .sl (.pair (.int .i64) (.pair (.int .i64) (.int .i64))) y1), (12, .int .i64 (y1.length : Int)), (13, .int .i64 st2.2)] [(6, .box 35 [.int .i64 (y1.getD st2.2.toNat (0, 0, 0)).1, .int .i64 (y1.getD st2.2.toNat (0, 0, 0)).2.1, .int .i64 (y1.getD st2.2.toNat (0, 0, 0)).2.2]), (7, .map true false (.pair (.int .i64) (.pair (.int .i64) (.int .i64))) (.sl (.pair (.int .i64) (.pair (.int .i64) (.int .i64)))) st2.1), (1900, .box 93 [.own 7])] ?_
     refine zo ?_
     refine zS 2 [(3, .bp 1900 0), (4, .sl (.pair (.int .i64) (.pair (.int .i64) (.int .i64))) y1), (6, .bp 6 0), (11, .sl (.pair (.int .i64) (.pair (.int .i64) (.int .i64))) y1), (12, .int .i64 (y1.length : Int)), (13, .int .i64 st2.2), (17, .own 7), (18, .agg [.int .i64 (y1.getD st2.2.toNat (0, 0, 0)).1, .int .i64 (y1.getD st2.2.toNat (0, 0, 0)).2.1, .int .i64 (y1.getD st2.2.toNat (0, 0, 0)).2.2])] [(6, .box 35 [.int .i64 (y1.getD st2.2.toNat (0, 0, 0)).1, .int .i64 (y1.getD st2.2.toNat (0, 0, 0)).2.1, .int .i64 (y1.getD st2.2.toNat (0, 0, 0)).2.2]), (7, .map true false (.pair (.int .i64) (.pair (.int .i64) (.int .i64))) (.sl (.pair (.int .i64) (.pair (.int .i64) (.int .i64)))) st2.1), (1900, .box 93 [.own 7])] ?_
     obtain ⟨c12, h⟩ := ck_some.1 h
     obtain ⟨c13, h⟩ := ck_some.1 h
     obtain ⟨c14, h⟩ := ck_some.1 h
     obtain ⟨c15, h⟩ := ck_some.1 h
     refine AO.lookupNil tab_ok mapty_93 (by decide) (by decide) rfl rfl rfl rfl (neg := false) rfl tab_30 rfl rfl (by first | rfl | (simp only [go_sem, hb9]) <;> (with_reducible and_intros) <;> first | assumption | rfl | omega | (unfold maxLen; omega)) (l := [.int .i64 (y1.getD st2.2.toNat (0, 0, 0)).1, .int .i64 (y1.getD st2.2.toNat (0, 0, 0)).2.1, .int .i64 (y1.getD st2.2.toNat (0, 0, 0)).2.2]) (by first | rfl | (simp only [go_sem, hb9]) <;> (with_reducible and_intros) <;> first | assumption | rfl | omega | (unfold maxLen; omega)) (by first | rfl | (simp only [go_sem, hb9]) <;> (with_reducible and_intros) <;> first | assumption | rfl | omega | (unfold maxLen; omega)) (by first | assumption | omega | (simp only [go_sem, hb9]) <;> (with_reducible and_intros) <;> first | assumption | rfl | omega | (unfold maxLen; omega)) rfl (by first | assumption | omega | (simp only [go_sem, hb9]) <;> (with_reducible and_intros) <;> first | assumption | rfl | omega | (unfold maxLen; omega)) ?_
     refine zT [(3, .bp 1900 0), (4, .sl (.pair (.int .i64) (.pair (.int .i64) (.int .i64))) y1), (6, .bp 6 0), (11, .sl (.pair (.int .i64) (.pair (.int .i64) (.int .i64))) y1), (12, .int .i64 (y1.length : Int)), (13, .int .i64 st2.2), (20, .bool (!(mhas st2.1 (y1.getD st2.2.toNat (0, 0, 0)))))] [(6, .box 35 [.int .i64 (y1.getD st2.2.toNat (0, 0, 0)).1, .int .i64 (y1.getD st2.2.toNat (0, 0, 0)).2.1, .int .i64 (y1.getD st2.2.toNat (0, 0, 0)).2.2]), (7, .map true false (.pair (.int .i64) (.pair (.int .i64) (.int .i64))) (.sl (.pair (.int .i64) (.pair (.int .i64) (.int .i64)))) st2.1), (1900, .box 93 [.own 7])] gt ?_
     refine zB [(3, .bp 1900 0), (4, .sl (.pair (.int .i64) (.pair (.int .i64) (.int .i64))) y1), (6, .bp 6 0), (11, .sl (.pair (.int .i64) (.pair (.int .i64) (.int .i64))) y1), (12, .int .i64 (y1.length : Int)), (13, .int .i64 st2.2), (20, .bool (!(mhas st2.1 (y1.getD st2.2.toNat (0, 0, 0)))))] [(6, .box 35 [.int .i64 (y1.getD st2.2.toNat (0, 0, 0)).1, .int .i64 (y1.getD st2.2.toNat (0, 0, 0)).2.1, .int .i64 (y1.getD st2.2.toNat (0, 0, 0)).2.2]), (7, .map true false (.pair (.int .i64) (.pair (.int .i64) (.int .i64))) (.sl (.pair (.int .i64) (.pair (.int .i64) (.int .i64)))) st2.1), (1900, .box 93 [.own 7])] ?_
     refine zQ h (fun hb16 h => ?_) (fun hb16 h => ?_)
     ·refine AW.ops ?_
      refine zS 3 [(3, .bp 1900 0), (4, .sl (.pair (.int .i64) (.pair (.int .i64) (.int .i64))) y1), (11, .sl (.pair (.int .i64) (.pair (.int .i64) (.int .i64))) y1), (12, .int .i64 (y1.length : Int)), (13, .int .i64 st2.2), (21, .own 7), (22, .agg [.int .i64 (y1.getD st2.2.toNat (0, 0, 0)).1, .int .i64 (y1.getD st2.2.toNat (0, 0, 0)).2.1, .int .i64 (y1.getD st2.2.toNat (0, 0, 0)).2.2]), (23, .sl (.pair (.int .i64) (.pair (.int .i64) (.int .i64))) y1)] [(7, .map true false (.pair (.int .i64) (.pair (.int .i64) (.int .i64))) (.sl (.pair (.int .i64) (.pair (.int .i64) (.int .i64)))) st2.1), (1900, .box 93 [.own 7])] ?_
      obtain ⟨c17, h⟩ := ck_some.1 h
      obtain ⟨c18, h⟩ := ck_some.1 h
      obtain ⟨c19, h⟩ := ck_some.1 h
      refine AO.mapPut mapty_93 (by decide) rfl (.inl rfl) rfl rfl (l := [.int .i64 (y1.getD st2.2.toNat (0, 0, 0)).1, .int .i64 (y1.getD st2.2.toNat (0, 0, 0)).2.1, .int .i64 (y1.getD st2.2.toNat (0, 0, 0)).2.2]) (by (simp only [go_sem, hb9, hb16]) <;> (with_reducible and_intros) <;> first | assumption | rfl | omega | (unfold maxLen; omega)) (by first | rfl | (simp only [go_sem, hb9, hb16]) <;> (with_reducible and_intros) <;> first | assumption | rfl | omega | (unfold maxLen; omega)) (by (simp only [go_sem, hb9, hb16]) <;> (with_reducible and_intros) <;> first | assumption | rfl | omega | (unfold maxLen; omega)) (lv := [.sl (.pair (.int .i64) (.pair (.int .i64) (.int .i64))) y1]) (by (simp only [go_sem, hb9, hb16]) <;> (with_reducible and_intros) <;> first | assumption | rfl | omega | (unfold maxLen; omega)) (by first | rfl | (simp only [go_sem, hb9, hb16]) <;> (with_reducible and_intros) <;> first | assumption | rfl | omega | (unfold maxLen; omega)) (.inr ⟨_, _, rfl⟩) ?_
      refine zT [(3, .bp 1900 0), (4, .sl (.pair (.int .i64) (.pair (.int .i64) (.int .i64))) y1), (11, .sl (.pair (.int .i64) (.pair (.int .i64) (.int .i64))) y1), (12, .int .i64 (y1.length : Int)), (13, .int .i64 st2.2)] [(7, .map true false (.pair (.int .i64) (.pair (.int .i64) (.int .i64))) (.sl (.pair (.int .i64) (.pair (.int .i64) (.int .i64)))) (mput st2.1 (y1.getD st2.2.toNat (0, 0, 0)) y1)), (1900, .box 93 [.own 7])] gt ?_
      refine zA [(3, .bp 1900 0), (4, .sl (.pair (.int .i64) (.pair (.int .i64) (.int .i64))) y1), (11, .sl (.pair (.int .i64) (.pair (.int .i64) (.int .i64))) y1), (12, .int .i64 (y1.length : Int)), (13, .int .i64 st2.2)] [(7, .map true false (.pair (.int .i64) (.pair (.int .i64) (.int .i64))) (.sl (.pair (.int .i64) (.pair (.int .i64) (.int .i64)))) (mput st2.1 (y1.getD st2.2.toNat (0, 0, 0)) y1)), (1900, .box 93 [.own 7])] ?_
      refine ablock_n ?_
      refine athen_n ?_
      refine AW.ops ?_
      obtain ⟨c20, h⟩ := ck_some.1 h
      refine zA [(3, .bp 1900 0), (4, .sl (.pair (.int .i64) (.pair (.int .i64) (.int .i64))) y1), (11, .sl (.pair (.int .i64) (.pair (.int .i64) (.int .i64))) y1), (12, .int .i64 (y1.length : Int)), (13, .int .i64 (st2.2 + 1))] [(7, .map true false (.pair (.int .i64) (.pair (.int .i64) (.int .i64))) (.sl (.pair (.int .i64) (.pair (.int .i64) (.int .i64)))) (mput st2.1 (y1.getD st2.2.toNat (0, 0, 0)) y1)), (1900, .box 93 [.own 7])] ?_
      obtain rfl := Option.some.inj h
      exact ⟨_, rfl, zL [] [] []⟩
     ·refine zm ?_
      refine athen_n ?_
      refine AW.ops ?_
      obtain ⟨c21, h⟩ := ck_some.1 h
      refine zA [(3, .bp 1900 0), (4, .sl (.pair (.int .i64) (.pair (.int .i64) (.int .i64))) y1), (11, .sl (.pair (.int .i64) (.pair (.int .i64) (.int .i64))) y1), (12, .int .i64 (y1.length : Int)), (13, .int .i64 (st2.2 + 1))] [(7, .map true false (.pair (.int .i64) (.pair (.int .i64) (.int .i64))) (.sl (.pair (.int .i64) (.pair (.int .i64) (.int .i64)))) st2.1), (1900, .box 93 [.own 7])] ?_
      obtain rfl := Option.some.inj h
      exact ⟨_, rfl, zL [] [] []⟩
    ·refine AW.exit ?_
     refine athen_e ?_
     obtain rfl := Option.some.inj h
     rw [← hd6 _ rfl] at ho5
     have h := ho5
     refine athen_e ?_
     refine ablock_s ?_
     refine ablock_n ?_
     obtain rfl := Option.some.inj h
     exact rpost_next rfl [] [] [] rfl (by (simp only [go_sem, hb9]) <;> (with_reducible and_intros) <;> first | assumption | rfl | omega | (unfold maxLen; omega))
  ·cases x1 with
   | inl st1_2 =>
    try simp only at h
    refine ablock_n ?_
    refine athen_n ?_
    exact AW.weaken (zL [] [] []) (hk_delay_accesses_found_k1 _ h)
   | inr rx =>
    exact rx.elim

theorem hc_delay_accesses_onCircles_1 (pair : Int × Int × Int) (a1 : List ((Int × Int × Int) × (List (Int × Int × Int)))) {r : Unit} (h : delay_accesses_onCircles_1 pair a1 = some r) : HC Try.prog 114 [(1000, .box 93 [.own 1001]), (1001, .map true false (.pair (.int .i64) (.pair (.int .i64) (.int .i64))) (.sl (.pair (.int .i64) (.pair (.int .i64) (.int .i64)))) a1)] [.agg [.int .i64 pair.1, .int .i64 pair.2.1, .int .i64 pair.2.2], .bp 1000 0] [(1000, .box 93 [.own 1001]), (1001, .map true false (.pair (.int .i64) (.pair (.int .i64) (.int .i64))) (.sl (.pair (.int .i64) (.pair (.int .i64) (.int .i64)))) a1)] (.bool (!(mhas a1 pair))) := by
 unfold delay_accesses_onCircles_1 at h
 refine zH Try.func114 [.tmp 3] 8 ?_
 refine zo ?_
 refine zB [(1, .bp 1000 0), (2, .bp 2 0)] [(2, .box 35 [.int .i64 pair.1, .int .i64 pair.2.1, .int .i64 pair.2.2]), (1000, .box 93 [.own 1001]), (1001, .map true false (.pair (.int .i64) (.pair (.int .i64) (.int .i64))) (.sl (.pair (.int .i64) (.pair (.int .i64) (.int .i64)))) a1)] ?_
 refine zo ?_
 refine zS 2 [(4, .own 1001), (5, .agg [.int .i64 pair.1, .int .i64 pair.2.1, .int .i64 pair.2.2])] [(1000, .box 93 [.own 1001]), (1001, .map true false (.pair (.int .i64) (.pair (.int .i64) (.int .i64))) (.sl (.pair (.int .i64) (.pair (.int .i64) (.int .i64)))) a1)] ?_
 obtain ⟨c1, h⟩ := ck_some.1 h
 obtain ⟨c2, h⟩ := ck_some.1 h
 obtain ⟨c3, h⟩ := ck_some.1 h
 obtain ⟨c4, h⟩ := ck_some.1 h
 refine AO.lookupNil tab_ok mapty_93 (by decide) (by decide) rfl rfl rfl rfl (neg := false) rfl tab_30 rfl rfl (by first | rfl | (simp only [go_sem]) <;> (with_reducible and_intros) <;> first | assumption | rfl | omega | (unfold maxLen; omega)) (l := [.int .i64 pair.1, .int .i64 pair.2.1, .int .i64 pair.2.2]) (by first | rfl | (simp only [go_sem]) <;> (with_reducible and_intros) <;> first | assumption | rfl | omega | (unfold maxLen; omega)) (by first | rfl | (simp only [go_sem]) <;> (with_reducible and_intros) <;> first | assumption | rfl | omega | (unfold maxLen; omega)) (by first | assumption | omega | (simp only [go_sem]) <;> (with_reducible and_intros) <;> first | assumption | rfl | omega | (unfold maxLen; omega)) rfl (by first | assumption | omega | (simp only [go_sem]) <;> (with_reducible and_intros) <;> first | assumption | rfl | omega | (unfold maxLen; omega)) ?_
 refine zT [(7, .bool (!(mhas a1 pair)))] [(1000, .box 93 [.own 1001]), (1001, .map true false (.pair (.int .i64) (.pair (.int .i64) (.int .i64))) (.sl (.pair (.int .i64) (.pair (.int .i64) (.int .i64)))) a1)] gt ?_
 refine zB [(3, .bool (!(mhas a1 pair)))] [(1000, .box 93 [.own 1001]), (1001, .map true false (.pair (.int .i64) (.pair (.int .i64) (.int .i64))) (.sl (.pair (.int .i64) (.pair (.int .i64) (.int .i64)))) a1)] ?_
 refine AW.ret ?_
 obtain rfl := Option.some.inj h
 exact zR [] [] []

theorem hc_slices_IndexFunc_6 (s : List (Int × Int × Int)) (c0 : List ((Int × Int × Int) × (List (Int × Int × Int)))) {r : Int} (h : slices_IndexFunc_6 s c0 = some r) : HC Try.prog 116 [(1000, .arr 35 (.pair (.int .i64) (.pair (.int .i64) (.int .i64))) s), (1001, .box 93 [.own 1002]), (1002, .map true false (.pair (.int .i64) (.pair (.int .i64) (.int .i64))) (.sl (.pair (.int .i64) (.pair (.int .i64) (.int .i64)))) c0)] [.own 1000, .fn (.func 114) [] [.bp 1001 0]] [(1000, .arr 35 (.pair (.int .i64) (.pair (.int .i64) (.int .i64))) s), (1001, .box 93 [.own 1002]), (1002, .map true false (.pair (.int .i64) (.pair (.int .i64) (.int .i64))) (.sl (.pair (.int .i64) (.pair (.int .i64) (.int .i64)))) c0)] (.int .i64 r) := by
 unfold slices_IndexFunc_6 at h
 refine zH Try.func116 [.tmp 4] 19 ?_
 refine zo ?_
 refine zB [(0, .own 1000), (1, .fn (.func 114) [] [.bp 1001 0])] [(1000, .arr 35 (.pair (.int .i64) (.pair (.int .i64) (.int .i64))) s), (1001, .box 93 [.own 1002]), (1002, .map true false (.pair (.int .i64) (.pair (.int .i64) (.int .i64))) (.sl (.pair (.int .i64) (.pair (.int .i64) (.int .i64)))) c0)] ?_
 refine AW.have1 (fun _ : Unit => slices_IndexFunc_6_k1 = some r) (fun _ => ⟨fr [], hpGet [(1000, .arr 35 (.pair (.int .i64) (.pair (.int .i64) (.int .i64))) s), (1001, .box 93 [.own 1002]), (1002, .map true false (.pair (.int .i64) (.pair (.int .i64) (.int .i64))) (.sl (.pair (.int .i64) (.pair (.int .i64) (.int .i64)))) c0)], gt⟩) (fun _ h => ?_) (fun hk_slices_IndexFunc_6_k1 => ?_)
 ·as_aux_lemma =>
   unfold slices_IndexFunc_6_k1 at h
   refine zo ?_
   refine zB [(4, .int .i64 (-1))] [(1000, .arr 35 (.pair (.int .i64) (.pair (.int .i64) (.int .i64))) s), (1001, .box 93 [.own 1002]), (1002, .map true false (.pair (.int .i64) (.pair (.int .i64) (.int .i64))) (.sl (.pair (.int .i64) (.pair (.int .i64) (.int .i64)))) c0)] ?_
   refine AW.ret ?_
   obtain rfl := Option.some.inj h
   exact zR [] [] []
 ·refine AW.seq ?_
  refine zo ?_
  refine zB [(0, .own 1000), (1, .fn (.func 114) [] [.bp 1001 0]), (7, .int .i64 (s.length : Int)), (8, .int .i64 0)] [(1000, .arr 35 (.pair (.int .i64) (.pair (.int .i64) (.int .i64))) s), (1001, .box 93 [.own 1002]), (1002, .map true false (.pair (.int .i64) (.pair (.int .i64) (.int .i64))) (.sl (.pair (.int .i64) (.pair (.int .i64) (.int .i64)))) c0)] ?_
  refine AW.block ?_
  obtain ⟨rv5, hw1, ho2⟩ := Option.bind_eq_some_iff.1 h
  refine AW.loopO (slices_IndexFunc_6_b1 s c0) (fun st1 => ⟨fr [(0, .own 1000), (1, .fn (.func 114) [] [.bp 1001 0]), (7, .int .i64 (s.length : Int)), (8, .int .i64 st1)], hpGet [(1000, .arr 35 (.pair (.int .i64) (.pair (.int .i64) (.int .i64))) s), (1001, .box 93 [.own 1002]), (1002, .map true false (.pair (.int .i64) (.pair (.int .i64) (.int .i64))) (.sl (.pair (.int .i64) (.pair (.int .i64) (.int .i64)))) c0)], gt⟩) 0 hw1 (zL [] [] []) ?_
  as_aux_lemma =>
   intro st1 x4 h hd3
   unfold slices_IndexFunc_6_b1 at h
   refine zo ?_
   refine zB [(0, .own 1000), (1, .fn (.func 114) [] [.bp 1001 0]), (7, .int .i64 (s.length : Int)), (8, .int .i64 st1), (9, .bool (decide (st1 < (s.length : Int))))] [(1000, .arr 35 (.pair (.int .i64) (.pair (.int .i64) (.int .i64))) s), (1001, .box 93 [.own 1002]), (1002, .map true false (.pair (.int .i64) (.pair (.int .i64) (.int .i64))) (.sl (.pair (.int .i64) (.pair (.int .i64) (.int .i64)))) c0)] ?_
   refine AW.seq ?_
   refine zQ h (fun hb6 h => ?_) (fun hb6 h => ?_)
   ·refine zk ?_
    refine AW.seq ?_
    refine AW.block ?_
    refine zo ?_
    refine zB [(0, .own 1000), (1, .fn (.func 114) [] [.bp 1001 0]), (5, .int .i64 st1), (7, .int .i64 (s.length : Int)), (8, .int .i64 st1)] [(1000, .arr 35 (.pair (.int .i64) (.pair (.int .i64) (.int .i64))) s), (1001, .box 93 [.own 1002]), (1002, .map true false (.pair (.int .i64) (.pair (.int .i64) (.int .i64))) (.sl (.pair (.int .i64) (.pair (.int .i64) (.int .i64)))) c0)] ?_
    refine zo ?_
    obtain ⟨c7, h⟩ := ck_some.1 h
    obtain ⟨c8, h⟩ := ck_some.1 h
    refine zS 5 [(0, .own 1000), (1, .fn (.func 114) [] [.bp 1001 0]), (5, .int .i64 st1), (7, .int .i64 (s.length : Int)), (8, .int .i64 st1), (11, .fn (.func 114) [] [.bp 1001 0]), (15, .agg [.int .i64 (s.getD st1.toNat (0, 0, 0)).1, .int .i64 (s.getD st1.toNat (0, 0, 0)).2.1, .int .i64 (s.getD st1.toNat (0, 0, 0)).2.2])] [(1000, .arr 35 (.pair (.int .i64) (.pair (.int .i64) (.int .i64))) s), (1001, .box 93 [.own 1002]), (1002, .map true false (.pair (.int .i64) (.pair (.int .i64) (.int .i64))) (.sl (.pair (.int .i64) (.pair (.int .i64) (.int .i64)))) c0)] ?_
    obtain ⟨v0, hv9, h⟩ := Option.bind_eq_some_iff.1 h
    refine zC [] [(1000, 1001), (1001, 1002)] (hc_delay_accesses_onCircles_1 (s.getD st1.toNat (0, 0, 0)) c0 hv9) [(0, .own 1000), (1, .fn (.func 114) [] [.bp 1001 0]), (5, .int .i64 st1), (7, .int .i64 (s.length : Int)), (8, .int .i64 st1), (16, .bool (!(mhas c0 (s.getD st1.toNat (0, 0, 0)))))] [(1000, .arr 35 (.pair (.int .i64) (.pair (.int .i64) (.int .i64))) s), (1001, .box 93 [.own 1002]), (1002, .map true false (.pair (.int .i64) (.pair (.int .i64) (.int .i64))) (.sl (.pair (.int .i64) (.pair (.int .i64) (.int .i64)))) c0)] ?_
    refine zB [(0, .own 1000), (1, .fn (.func 114) [] [.bp 1001 0]), (5, .int .i64 st1), (7, .int .i64 (s.length : Int)), (8, .int .i64 st1), (16, .bool (!(mhas c0 (s.getD st1.toNat (0, 0, 0)))))] [(1000, .arr 35 (.pair (.int .i64) (.pair (.int .i64) (.int .i64))) s), (1001, .box 93 [.own 1002]), (1002, .map true false (.pair (.int .i64) (.pair (.int .i64) (.int .i64))) (.sl (.pair (.int .i64) (.pair (.int .i64) (.int .i64)))) c0)] ?_
    refine zQ h (fun hb10 h => ?_) (fun hb10 h => ?_)
    ·refine zo ?_
     refine zB [(4, .int .i64 st1)] [(1000, .arr 35 (.pair (.int .i64) (.pair (.int .i64) (.int .i64))) s), (1001, .box 93 [.own 1002]), (1002, .map true false (.pair (.int .i64) (.pair (.int .i64) (.int .i64))) (.sl (.pair (.int .i64) (.pair (.int .i64) (.int .i64)))) c0)] ?_
     refine AW.ret ?_
     refine ablock_r ?_
     refine athen_r ?_
     obtain rfl := Option.some.inj h
     rw [← hd3 _ rfl] at ho2
     have h := ho2
     try simp only at h
     refine athen_r ?_
     refine ablock_r ?_
     refine athen_r ?_
     obtain rfl := Option.some.inj h
     exact zR [] [] []
    ·refine zm ?_
     refine athen_n ?_
     refine AW.ops ?_
     obtain ⟨c11, h⟩ := ck_some.1 h
     refine zA [(0, .own 1000), (1, .fn (.func 114) [] [.bp 1001 0]), (7, .int .i64 (s.length : Int)), (8, .int .i64 (st1 + 1))] [(1000, .arr 35 (.pair (.int .i64) (.pair (.int .i64) (.int .i64))) s), (1001, .box 93 [.own 1002]), (1002, .map true false (.pair (.int .i64) (.pair (.int .i64) (.int .i64))) (.sl (.pair (.int .i64) (.pair (.int .i64) (.int .i64)))) c0)] ?_
     obtain rfl := Option.some.inj h
     exact ⟨_, rfl, zL [] [] []⟩
   ·refine AW.exit ?_
    refine athen_e ?_
    obtain rfl := Option.some.inj h
    try rw [← hd3 _ rfl] at ho2
    have h := ho2
    try simp only at h
    refine athen_e ?_
    refine ablock_s ?_
    refine athen_n ?_
    exact AW.weaken (zL [] [] []) (hk_slices_IndexFunc_6_k1 () h)

end Go.Proofs.Ytdicomoggfhbfaa
