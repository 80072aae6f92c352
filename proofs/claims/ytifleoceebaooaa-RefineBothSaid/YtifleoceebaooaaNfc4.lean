/-
  Made by wip/tool/dc.py out of the print of the program: contracts.
-/
import Derived.Test.YtifleoceebaooaaRfp
import Derived.Test.YtifleoceebaooaaShr
import Derived.Test.YtifleoceebaooaaAvd
import Derived.Test.YtifleoceebaooaaNfc1
import Derived.Test.YtifleoceebaooaaNfc2
import Derived.Test.YtifleoceebaooaaNfc3
namespace Go.Proofs.Ytifleoceebaooaa
open Go.RowKit

set_option linter.unusedSimpArgs false
set_option linter.unusedVariables false
set_option linter.constructorNameAsVariable false

set_option maxRecDepth 100000
set_option maxHeartbeats 2000000

theorem hc_linealref05_SameInts (a : List Int) (b : List Int) {r : Bool} (h : linealref05_SameInts a b = some r) : HC Try.prog 22 [] [.sl (.int .i64) a, .sl (.int .i64) b] [] (.bool r) := by
 unfold linealref05_SameInts at h
 refine zH Try.func22 [.tmp 4] 26 ?_
 refine zo ?_
 refine zB [(0, .sl (.int .i64) a), (1, .sl (.int .i64) b)] [] ?_
 refine AW.seq ?_
 refine zo ?_
 refine zB [(0, .sl (.int .i64) a), (1, .sl (.int .i64) b), (10, .bool (!(decide ((a.length : Int) = (b.length : Int)))))] [] ?_
 refine zQ h (fun hb1 h => ?_) (fun hb1 h => ?_)
 ·refine zo ?_
  refine zB [(4, .bool false)] [] ?_
  refine zr ?_
  obtain rfl := Option.some.inj h
  exact zR [] [] []
 ·refine zk ?_
  refine AW.have1 (fun _ : Unit => linealref05_SameInts_k1 = some r) (fun _ => ⟨fr [], hpGet [], gt⟩) (fun _ h => ?_) (fun hk_linealref05_SameInts_k1 => ?_)
  ·as_aux_lemma =>
    unfold linealref05_SameInts_k1 at h
    refine zo ?_
    refine zB [(4, .bool true)] [] ?_
    refine AW.ret ?_
    obtain rfl := Option.some.inj h
    exact zR [] [] []
  ·refine AW.seq ?_
   refine zo ?_
   refine zB [(0, .sl (.int .i64) a), (1, .sl (.int .i64) b), (12, .int .i64 (a.length : Int)), (13, .int .i64 0)] [] ?_
   refine AW.block ?_
   obtain ⟨rv6, hw2, ho3⟩ := Option.bind_eq_some_iff.1 h
   refine AW.loopO (linealref05_SameInts_b1 a b) (fun st1 => ⟨fr [(0, .sl (.int .i64) a), (1, .sl (.int .i64) b), (12, .int .i64 (a.length : Int)), (13, .int .i64 st1)], hpGet [], gt⟩) 0 hw2 (zL [] [] []) ?_
   as_aux_lemma =>
    intro st1 x5 h hd4
    unfold linealref05_SameInts_b1 at h
    refine zo ?_
    refine zB [(0, .sl (.int .i64) a), (1, .sl (.int .i64) b), (12, .int .i64 (a.length : Int)), (13, .int .i64 st1), (14, .bool (decide (st1 < (a.length : Int))))] [] ?_
    refine AW.seq ?_
    refine zQ h (fun hb7 h => ?_) (fun hb7 h => ?_)
    ·refine zk ?_
     refine AW.seq ?_
     refine AW.block ?_
     refine zo ?_
     refine zB [(0, .sl (.int .i64) a), (1, .sl (.int .i64) b), (5, .int .i64 st1), (12, .int .i64 (a.length : Int)), (13, .int .i64 st1)] [] ?_
     refine AW.seq ?_
     refine AW.draw tab_ok mixed_ok [] [] (by decide) (lex_fast (by kernel_rfl)) ?_
     as_aux_lemma =>
      obtain ⟨c9, h⟩ := ck_some.1 h
      obtain ⟨c10, h⟩ := ck_some.1 h
      refine adops_cut 6 (fun K' hK8 => ?_)
      try dsimp only [List.drop_succ_cons, List.drop_zero, List.take_succ_cons, List.take_zero]
      simp only [go_sem, hb1, hb7]
      repeat with_reducible refine zN ?_
      refine hK8 _ ?_
      as_aux_lemma =>
       obtain ⟨c12, h⟩ := ck_some.1 h
       obtain ⟨c13, h⟩ := ck_some.1 h
       refine adops_cut 3 (fun K' hK11 => ?_)
       try dsimp only [List.drop_succ_cons, List.drop_zero, List.take_succ_cons, List.take_zero]
       simp only [go_sem, hb1, hb7]
       repeat with_reducible refine zN ?_
       refine hK11 _ ?_
       refine adops_nil ?_
       refine athen_n ?_
       refine zV [(0, .sl (.int .i64) a), (1, .sl (.int .i64) b), (12, .int .i64 (a.length : Int)), (13, .int .i64 st1), (24, .bool (!(decide ((a.getD st1.toNat 0) = (b.getD st1.toNat 0)))))] [] gt ?_
       as_aux_lemma =>
        refine zQ h (fun hb14 h => ?_) (fun hb14 h => ?_)
        ·refine zo ?_
         refine zB [(4, .bool false)] [] ?_
         refine AW.ret ?_
         refine ablock_r ?_
         refine athen_r ?_
         obtain rfl := Option.some.inj h
         rw [← hd4 _ rfl] at ho3
         have h := ho3
         try simp only at h
         refine athen_r ?_
         refine ablock_r ?_
         refine athen_r ?_
         obtain rfl := Option.some.inj h
         exact zR [] [] []
        ·refine zm ?_
         refine athen_n ?_
         refine AW.ops ?_
         obtain ⟨c15, h⟩ := ck_some.1 h
         refine zA [(0, .sl (.int .i64) a), (1, .sl (.int .i64) b), (12, .int .i64 (a.length : Int)), (13, .int .i64 (st1 + 1))] [] ?_
         obtain rfl := Option.some.inj h
         exact ⟨_, rfl, zL [] [] []⟩
    ·refine AW.exit ?_
     refine athen_e ?_
     obtain rfl := Option.some.inj h
     rw [← hd4 _ rfl] at ho3
     have h := ho3
     try simp only at h
     refine athen_e ?_
     refine ablock_s ?_
     refine athen_n ?_
     exact AW.weaken (zL [] [] []) (hk_linealref05_SameInts_k1 () h)

theorem hc_lineallaw05_Awake {r : Bool} (h : lineallaw05_Awake = some r) : HC Try.prog 17 [] [] [] (.bool r) := by
 unfold lineallaw05_Awake at h
 refine zH Try.func17 [.tmp 0] 27 ?_
 refine zo ?_
 refine zB [] [] ?_
 refine zo ?_
 refine zS 5 [(1, .bp 1 0), (8, .agg [.int .i64 2, .own 7])] [(1, .box 24 [.int .i64 0, .cv (.slice none 0 0)]), (7, .arr 66 (.pair (.int .i64) (.pair (.int .i64) (.int .i64))) [(0, 1, 1), (1, 2, 0)])] ?_
 refine zB [(1, .bp 1 0)] [(1, .box 24 [.int .i64 2, .own 7]), (7, .arr 66 (.pair (.int .i64) (.pair (.int .i64) (.int .i64))) [(0, 1, 1), (1, 2, 0)])] ?_
 refine zo ?_
 refine zS 5 [(1, .bp 1 0), (13, .agg [.int .i64 2, .own 12])] [(1, .box 24 [.int .i64 2, .own 7]), (7, .arr 66 (.pair (.int .i64) (.pair (.int .i64) (.int .i64))) [(0, 1, 1), (1, 2, 0)]), (12, .arr 66 (.pair (.int .i64) (.pair (.int .i64) (.int .i64))) [(0, 1, 1), (1, 2, 0), (1, 3, 0)])] ?_
 refine zB [(1, .bp 1 0), (2, .bp 2 0)] [(1, .box 24 [.int .i64 2, .own 7]), (2, .box 24 [.int .i64 2, .own 12]), (7, .arr 66 (.pair (.int .i64) (.pair (.int .i64) (.int .i64))) [(0, 1, 1), (1, 2, 0)]), (12, .arr 66 (.pair (.int .i64) (.pair (.int .i64) (.int .i64))) [(0, 1, 1), (1, 2, 0), (1, 3, 0)])] ?_
 refine zo ?_
 refine zS 2 [(15, .agg [.int .i64 2, .own 12]), (16, .agg [.int .i64 2, .own 7])] [(7, .arr 66 (.pair (.int .i64) (.pair (.int .i64) (.int .i64))) [(0, 1, 1), (1, 2, 0)]), (12, .arr 66 (.pair (.int .i64) (.pair (.int .i64) (.int .i64))) [(0, 1, 1), (1, 2, 0), (1, 3, 0)])] ?_
 obtain ⟨v0, hv1, h⟩ := Option.bind_eq_some_iff.1 h
 refine zC [7, 12] [] (hc_refine_Shows (2, [(0, 1, 1), (1, 2, 0), (1, 3, 0)]) (2, [(0, 1, 1), (1, 2, 0)]) hv1) [(17, .tup [.own 27000, .int .i64 v0.2])] [(27000, .arr 3 (.int .i64) v0.1)] ?_
 refine zB [(3, .own 27000), (4, .int .i64 v0.2)] [(27000, .arr 3 (.int .i64) v0.1)] ?_
 refine zo ?_
 refine zS 3 [(3, .own 27000), (22, .bool (decide (v0.2 = 0)))] [(27000, .arr 3 (.int .i64) v0.1)] ?_
 rcases zI h with ⟨hb2, h⟩ | ⟨hb2, h⟩
 ·refine zS 2 [(22, .bool true), (23, .own 27000), (24, .own 24)] [(24, .arr 3 (.int .i64) [1, 3]), (27000, .arr 3 (.int .i64) v0.1)] ?_
  obtain ⟨v0_2, hv3, h⟩ := Option.bind_eq_some_iff.1 h
  refine zG [24, 27000] [] (hc_linealref05_SameInts v0.1 [1, 3] hv3) [(22, .bool true), (25, .bool v0_2)] [] ?_
  refine zB [(0, .bool v0_2)] [] ?_
  refine AW.ret ?_
  obtain rfl := Option.some.inj h
  exact zR [] [] []
 ·refine zB [(0, .bool false)] [] ?_
  refine AW.ret ?_
  obtain rfl := Option.some.inj h
  exact zR [] [] []

theorem hc_refine_IsTrace_1 (label : Int) {r : Bool} (h : refine_IsTrace_1 label = some r) : HC Try.prog 72 [] [.int .i64 label] [] (.bool r) := by
 unfold refine_IsTrace_1 at h
 refine zH Try.func72 [.tmp 2] 6 ?_
 refine zo ?_
 refine zB [(0, .int .i64 label)] [] ?_
 refine zo ?_
 refine zS 1 [(3, .int .i64 label)] [] ?_
 obtain ⟨v0, hv1, h⟩ := Option.bind_eq_some_iff.1 h
 refine zC [] [] (hc_refine_isSeen label hv1) [(4, .bool v0)] [] ?_
 refine zB [(2, .bool (!v0))] [] ?_
 refine AW.ret ?_
 obtain rfl := Option.some.inj h
 exact zR [] [] []

theorem hc_slices_IndexFunc (s : List Int) {r : Int} (h : slices_IndexFunc s = some r) : HC Try.prog 108 [] [.sl (.int .i64) s, .fn (.func 72) [] []] [] (.int .i64 r) := by
 unfold slices_IndexFunc at h
 refine zH Try.func108 [.tmp 4] 19 ?_
 refine zo ?_
 refine zB [(0, .sl (.int .i64) s), (1, .fn (.func 72) [] [])] [] ?_
 refine AW.have1 (fun _ : Unit => slices_IndexFunc_k1 = some r) (fun _ => ⟨fr [], hpGet [], gt⟩) (fun _ h => ?_) (fun hk_slices_IndexFunc_k1 => ?_)
 ·as_aux_lemma =>
   unfold slices_IndexFunc_k1 at h
   refine zo ?_
   refine zB [(4, .int .i64 (-1))] [] ?_
   refine AW.ret ?_
   obtain rfl := Option.some.inj h
   exact zR [] [] []
 ·refine AW.seq ?_
  refine zo ?_
  refine zB [(0, .sl (.int .i64) s), (1, .fn (.func 72) [] []), (7, .int .i64 (s.length : Int)), (8, .int .i64 0)] [] ?_
  refine AW.block ?_
  obtain ⟨rv5, hw1, ho2⟩ := Option.bind_eq_some_iff.1 h
  refine AW.loopO (slices_IndexFunc_b1 s) (fun st1 => ⟨fr [(0, .sl (.int .i64) s), (1, .fn (.func 72) [] []), (7, .int .i64 (s.length : Int)), (8, .int .i64 st1)], hpGet [], gt⟩) 0 hw1 (zL [] [] []) ?_
  as_aux_lemma =>
   intro st1 x4 h hd3
   unfold slices_IndexFunc_b1 at h
   refine zo ?_
   refine zB [(0, .sl (.int .i64) s), (1, .fn (.func 72) [] []), (7, .int .i64 (s.length : Int)), (8, .int .i64 st1), (9, .bool (decide (st1 < (s.length : Int))))] [] ?_
   refine AW.seq ?_
   refine zQ h (fun hb6 h => ?_) (fun hb6 h => ?_)
   ·refine zk ?_
    refine AW.seq ?_
    refine AW.block ?_
    refine zo ?_
    refine zB [(0, .sl (.int .i64) s), (1, .fn (.func 72) [] []), (5, .int .i64 st1), (7, .int .i64 (s.length : Int)), (8, .int .i64 st1)] [] ?_
    refine zo ?_
    obtain ⟨c7, h⟩ := ck_some.1 h
    obtain ⟨c8, h⟩ := ck_some.1 h
    refine zS 5 [(0, .sl (.int .i64) s), (1, .fn (.func 72) [] []), (5, .int .i64 st1), (7, .int .i64 (s.length : Int)), (8, .int .i64 st1), (11, .fn (.func 72) [] []), (15, .int .i64 (s.getD st1.toNat 0))] [] ?_
    obtain ⟨v0, hv9, h⟩ := Option.bind_eq_some_iff.1 h
    refine zC [] [] (hc_refine_IsTrace_1 (s.getD st1.toNat 0) hv9) [(0, .sl (.int .i64) s), (1, .fn (.func 72) [] []), (5, .int .i64 st1), (7, .int .i64 (s.length : Int)), (8, .int .i64 st1), (16, .bool v0)] [] ?_
    refine zB [(0, .sl (.int .i64) s), (1, .fn (.func 72) [] []), (5, .int .i64 st1), (7, .int .i64 (s.length : Int)), (8, .int .i64 st1), (16, .bool v0)] [] ?_
    refine zQ h (fun hb10 h => ?_) (fun hb10 h => ?_)
    ·refine zo ?_
     refine zB [(4, .int .i64 st1)] [] ?_
     refine AW.ret ?_
     refine ablock_r ?_
     refine athen_r ?_
     obtain rfl := Option.some.inj h
     rw [← hd3 _ rfl] at ho2
     have h := ho2
     try simp only at h
     refine athen_r ?_
     refine ablock_r ?_
     refine athen_r ?_
     obtain rfl := Option.some.inj h
     exact zR [] [] []
    ·refine zm ?_
     refine athen_n ?_
     refine AW.ops ?_
     obtain ⟨c11, h⟩ := ck_some.1 h
     refine zA [(0, .sl (.int .i64) s), (1, .fn (.func 72) [] []), (7, .int .i64 (s.length : Int)), (8, .int .i64 (st1 + 1))] [] ?_
     obtain rfl := Option.some.inj h
     exact ⟨_, rfl, zL [] [] []⟩
   ·refine AW.exit ?_
    refine athen_e ?_
    obtain rfl := Option.some.inj h
    rw [← hd3 _ rfl] at ho2
    have h := ho2
    try simp only at h
    refine athen_e ?_
    refine ablock_s ?_
    refine athen_n ?_
    exact AW.weaken (zL [] [] []) (hk_slices_IndexFunc_k1 () h)

theorem hc_slices_ContainsFunc (s : List Int) {r : Bool} (h : slices_ContainsFunc s = some r) : HC Try.prog 74 [] [.sl (.int .i64) s, .fn (.func 72) [] []] [] (.bool r) := by
 unfold slices_ContainsFunc at h
 refine zH Try.func74 [.tmp 4] 9 ?_
 refine zo ?_
 refine zB [(0, .sl (.int .i64) s), (1, .fn (.func 72) [] [])] [] ?_
 refine zo ?_
 refine zS 2 [(5, .sl (.int .i64) s), (6, .fn (.func 72) [] [])] [] ?_
 obtain ⟨v0, hv1, h⟩ := Option.bind_eq_some_iff.1 h
 refine zC [] [] (hc_slices_IndexFunc s hv1) [(7, .int .i64 v0)] [] ?_
 refine zB [(4, .bool (decide (0 ≤ v0)))] [] ?_
 refine AW.ret ?_
 obtain rfl := Option.some.inj h
 exact zR [] [] []

theorem hc_refine_frame_isTrace (f : (Int × (List (Int × Int × Int))) × (El T69)) (trace : List Int) {r : Bool} (h : refine_frame_isTrace f trace = some r) : HC Try.prog 75 [] [.agg (.int .i64 f.1.1 :: (.sl (.pair (.int .i64) (.pair (.int .i64) (.int .i64))) f.1.2 :: (cellsX T69 f.2))), .sl (.int .i64) trace] [] (.bool r) := by
 unfold refine_frame_isTrace at h
 refine zH Try.func75 [.tmp 4] 23 ?_
 refine zo ?_
 refine zB [(1, .sl (.int .i64) trace), (2, .bp 2 0)] [(2, .box 71 (.int .i64 f.1.1 :: (.sl (.pair (.int .i64) (.pair (.int .i64) (.int .i64))) f.1.2 :: (cellsX T69 f.2))))] ?_
 refine zo ?_
 refine zS 1 [(1, .sl (.int .i64) trace), (2, .bp 2 0), (8, .agg (.int .i64 f.1.1 :: (.sl (.pair (.int .i64) (.pair (.int .i64) (.int .i64))) f.1.2 :: (cellsX T69 f.2))))] [(2, .box 71 (.int .i64 f.1.1 :: (.sl (.pair (.int .i64) (.pair (.int .i64) (.int .i64))) f.1.2 :: (cellsX T69 f.2))))] ?_
 obtain ⟨v0, hv1, h⟩ := Option.bind_eq_some_iff.1 h
 refine zC [] [] (hc_refine_frame_begin f hv1) [(1, .sl (.int .i64) trace), (2, .bp 2 0), (9, .int .u8 (intAt T69 f.2 0))] [(2, .box 71 (.int .i64 f.1.1 :: (.sl (.pair (.int .i64) (.pair (.int .i64) (.int .i64))) f.1.2 :: (cellsX T69 f.2))))] ?_
 refine zB [(1, .sl (.int .i64) trace), (2, .bp 2 0), (5, .int .u8 (intAt T69 f.2 0))] [(2, .box 71 (.int .i64 f.1.1 :: (.sl (.pair (.int .i64) (.pair (.int .i64) (.int .i64))) f.1.2 :: (cellsX T69 f.2))))] ?_
 refine AW.have1 (fun b1 : Int => refine_frame_isTrace_k1 b1 = some r) (fun b1 => ⟨fr [(5, .int .u8 b1)], hpGet [], gt⟩) (fun b1 h => ?_) (fun hk_refine_frame_isTrace_k1 => ?_)
 ·as_aux_lemma =>
   unfold refine_frame_isTrace_k1 at h
   refine zo ?_
   refine zB [(4, .bool (!(decide (b1 = 0))))] [] ?_
   refine AW.ret ?_
   obtain rfl := Option.some.inj h
   exact zR [] [] []
 ·refine AW.seq ?_
  refine zo ?_
  refine zB [(2, .bp 2 0), (5, .int .u8 (intAt T69 f.2 0)), (10, .sl (.int .i64) trace), (11, .int .i64 (trace.length : Int)), (12, .int .i64 0)] [(2, .box 71 (.int .i64 f.1.1 :: (.sl (.pair (.int .i64) (.pair (.int .i64) (.int .i64))) f.1.2 :: (cellsX T69 f.2))))] ?_
  refine AW.block ?_
  obtain ⟨rv6, hw2, ho3⟩ := Option.bind_eq_some_iff.1 h
  refine AW.loopO (refine_frame_isTrace_b1 f trace) (fun st1 => ⟨fr [(2, .bp 2 0), (5, .int .u8 st1.1), (10, .sl (.int .i64) trace), (11, .int .i64 (trace.length : Int)), (12, .int .i64 st1.2)], hpGet [(2, .box 71 (.int .i64 f.1.1 :: (.sl (.pair (.int .i64) (.pair (.int .i64) (.int .i64))) f.1.2 :: (cellsX T69 f.2))))], gt⟩) ((intAt T69 f.2 0), 0) hw2 (zL [] [] []) ?_
  as_aux_lemma =>
   intro st1 x5 h hd4
   unfold refine_frame_isTrace_b1 at h
   refine zo ?_
   refine zB [(2, .bp 2 0), (5, .int .u8 st1.1), (10, .sl (.int .i64) trace), (11, .int .i64 (trace.length : Int)), (12, .int .i64 st1.2), (13, .bool (decide (st1.2 < (trace.length : Int))))] [(2, .box 71 (.int .i64 f.1.1 :: (.sl (.pair (.int .i64) (.pair (.int .i64) (.int .i64))) f.1.2 :: (cellsX T69 f.2))))] ?_
   refine AW.seq ?_
   refine zQ h (fun hb7 h => ?_) (fun hb7 h => ?_)
   ·refine zk ?_
    refine AW.seq ?_
    refine AW.block ?_
    refine zo ?_
    obtain ⟨c8, h⟩ := ck_some.1 h
    obtain ⟨c9, h⟩ := ck_some.1 h
    refine zB [(2, .bp 2 0), (5, .int .u8 st1.1), (7, .int .i64 (trace.getD st1.2.toNat 0)), (10, .sl (.int .i64) trace), (11, .int .i64 (trace.length : Int)), (12, .int .i64 st1.2)] [(2, .box 71 (.int .i64 f.1.1 :: (.sl (.pair (.int .i64) (.pair (.int .i64) (.int .i64))) f.1.2 :: (cellsX T69 f.2))))] ?_
    refine AW.ops ?_
    refine zS 3 [(2, .bp 2 0), (10, .sl (.int .i64) trace), (11, .int .i64 (trace.length : Int)), (12, .int .i64 st1.2), (16, .agg (.int .i64 f.1.1 :: (.sl (.pair (.int .i64) (.pair (.int .i64) (.int .i64))) f.1.2 :: (cellsX T69 f.2)))), (17, .int .u8 st1.1), (18, .int .i64 (trace.getD st1.2.toNat 0))] [(2, .box 71 (.int .i64 f.1.1 :: (.sl (.pair (.int .i64) (.pair (.int .i64) (.int .i64))) f.1.2 :: (cellsX T69 f.2))))] ?_
    obtain ⟨v0_2, hv10, h⟩ := Option.bind_eq_some_iff.1 h
    refine zC [] [] (hc_refine_frame_after f st1.1 (trace.getD st1.2.toNat 0) hv10) [(2, .bp 2 0), (10, .sl (.int .i64) trace), (11, .int .i64 (trace.length : Int)), (12, .int .i64 st1.2), (19, .int .u8 v0_2)] [(2, .box 71 (.int .i64 f.1.1 :: (.sl (.pair (.int .i64) (.pair (.int .i64) (.int .i64))) f.1.2 :: (cellsX T69 f.2))))] ?_
    refine zA [(2, .bp 2 0), (5, .int .u8 v0_2), (10, .sl (.int .i64) trace), (11, .int .i64 (trace.length : Int)), (12, .int .i64 st1.2)] [(2, .box 71 (.int .i64 f.1.1 :: (.sl (.pair (.int .i64) (.pair (.int .i64) (.int .i64))) f.1.2 :: (cellsX T69 f.2))))] ?_
    refine ablock_n ?_
    refine athen_n ?_
    refine AW.ops ?_
    obtain ⟨c11, h⟩ := ck_some.1 h
    refine zA [(2, .bp 2 0), (5, .int .u8 v0_2), (10, .sl (.int .i64) trace), (11, .int .i64 (trace.length : Int)), (12, .int .i64 (st1.2 + 1))] [(2, .box 71 (.int .i64 f.1.1 :: (.sl (.pair (.int .i64) (.pair (.int .i64) (.int .i64))) f.1.2 :: (cellsX T69 f.2))))] ?_
    obtain rfl := Option.some.inj h
    exact ⟨_, rfl, zL [] [] []⟩
   ·refine AW.exit ?_
    refine athen_e ?_
    obtain rfl := Option.some.inj h
    rw [← hd4 _ rfl] at ho3
    have h := ho3
    refine athen_e ?_
    refine ablock_s ?_
    refine athen_n ?_
    exact AW.weaken (zL [] [] []) (hk_refine_frame_isTrace_k1 _ h)

theorem hc_refine_IsTrace (s : Int × (List (Int × Int × Int))) (trace : List Int) {r : Bool × Int} (h : refine_IsTrace s trace = some r) : HC Try.prog 27 [] [.agg [.int .i64 s.1, .sl (.pair (.int .i64) (.pair (.int .i64) (.int .i64))) s.2], .sl (.int .i64) trace] [] (.tup [.bool r.1, .int .i64 r.2]) := by
 unfold refine_IsTrace at h
 refine zH Try.func27 [.tmp 4, .tmp 5] 28 ?_
 refine zo ?_
 refine zB [(1, .sl (.int .i64) trace), (2, .bp 2 0)] [(2, .box 24 [.int .i64 s.1, .sl (.pair (.int .i64) (.pair (.int .i64) (.int .i64))) s.2])] ?_
 refine zo ?_
 refine zS 1 [(1, .sl (.int .i64) trace), (10, .agg [.int .i64 s.1, .sl (.pair (.int .i64) (.pair (.int .i64) (.int .i64))) s.2])] [] ?_
 obtain ⟨v0, hv1, h⟩ := Option.bind_eq_some_iff.1 h
 refine zC [] [] (hc_refine_frameOf s hv1) [(1, .sl (.int .i64) trace), (11, .tup [.agg (.int .i64 v0.1 :: (.sl (.pair (.int .i64) (.pair (.int .i64) (.int .i64))) v0.2.1 :: (cellsX T69 v0.2.2.1))), .int .i64 v0.2.2.2])] [] ?_
 refine zS 5 [(1, .sl (.int .i64) trace), (6, .bp 6 0), (13, .int .i64 v0.2.2.2)] [(6, .box 71 (.int .i64 v0.1 :: (.sl (.pair (.int .i64) (.pair (.int .i64) (.int .i64))) v0.2.1 :: (cellsX T69 v0.2.2.1))))] ?_
 refine zB [(1, .sl (.int .i64) trace), (6, .bp 6 0), (7, .int .i64 v0.2.2.2)] [(6, .box 71 (.int .i64 v0.1 :: (.sl (.pair (.int .i64) (.pair (.int .i64) (.int .i64))) v0.2.1 :: (cellsX T69 v0.2.2.1))))] ?_
 refine AW.seq ?_
 refine zo ?_
 refine zB [(1, .sl (.int .i64) trace), (6, .bp 6 0), (7, .int .i64 v0.2.2.2), (15, .bool (!(decide (v0.2.2.2 = 0))))] [(6, .box 71 (.int .i64 v0.1 :: (.sl (.pair (.int .i64) (.pair (.int .i64) (.int .i64))) v0.2.1 :: (cellsX T69 v0.2.2.1))))] ?_
 refine zQ h (fun hb2 h => ?_) (fun hb2 h => ?_)
 ·refine zo ?_
  refine zB [(4, .bool false), (5, .int .i64 v0.2.2.2)] [] ?_
  refine zr ?_
  obtain rfl := Option.some.inj h
  exact zR [] [] []
 ·refine zk ?_
  refine zo ?_
  refine zB [(1, .sl (.int .i64) trace), (6, .bp 6 0), (8, .fn (.func 72) [] [])] [(6, .box 71 (.int .i64 v0.1 :: (.sl (.pair (.int .i64) (.pair (.int .i64) (.int .i64))) v0.2.1 :: (cellsX T69 v0.2.2.1))))] ?_
  refine AW.seq ?_
  refine zo ?_
  refine zS 4 [(1, .sl (.int .i64) trace), (6, .bp 6 0), (8, .fn (.func 72) [] []), (20, .bool (decide (1000 < (trace.length : Int))))] [(6, .box 71 (.int .i64 v0.1 :: (.sl (.pair (.int .i64) (.pair (.int .i64) (.int .i64))) v0.2.1 :: (cellsX T69 v0.2.2.1))))] ?_
  rcases zI h with ⟨hb3, h⟩ | ⟨hb3, h⟩
  ·refine zB [(1, .sl (.int .i64) trace), (6, .bp 6 0), (24, .bool true)] [(6, .box 71 (.int .i64 v0.1 :: (.sl (.pair (.int .i64) (.pair (.int .i64) (.int .i64))) v0.2.1 :: (cellsX T69 v0.2.2.1))))] ?_
   refine AW.cond (b := true) rfl (fun _ => ?_) (fun hb4 => by cases hb4)
   refine zo ?_
   refine zB [(4, .bool false), (5, .int .i64 2)] [] ?_
   refine zr ?_
   obtain rfl := Option.some.inj h
   exact zR [] [] []
  ·refine zS 2 [(1, .sl (.int .i64) trace), (6, .bp 6 0), (20, .bool false), (21, .sl (.int .i64) trace), (22, .fn (.func 72) [] [])] [(6, .box 71 (.int .i64 v0.1 :: (.sl (.pair (.int .i64) (.pair (.int .i64) (.int .i64))) v0.2.1 :: (cellsX T69 v0.2.2.1))))] ?_
   obtain ⟨v0_2, hv5, h⟩ := Option.bind_eq_some_iff.1 h
   refine zG [] [] (hc_slices_ContainsFunc trace hv5) [(1, .sl (.int .i64) trace), (6, .bp 6 0), (20, .bool false), (23, .bool v0_2)] [(6, .box 71 (.int .i64 v0.1 :: (.sl (.pair (.int .i64) (.pair (.int .i64) (.int .i64))) v0.2.1 :: (cellsX T69 v0.2.2.1))))] ?_
   refine zB [(1, .sl (.int .i64) trace), (6, .bp 6 0), (24, .bool v0_2)] [(6, .box 71 (.int .i64 v0.1 :: (.sl (.pair (.int .i64) (.pair (.int .i64) (.int .i64))) v0.2.1 :: (cellsX T69 v0.2.2.1))))] ?_
   refine zQ h (fun hb6 h => ?_) (fun hb6 h => ?_)
   ·refine zo ?_
    refine zB [(4, .bool false), (5, .int .i64 2)] [] ?_
    refine zr ?_
    obtain rfl := Option.some.inj h
    exact zR [] [] []
   ·refine zk ?_
    refine zo ?_
    refine zS 2 [(25, .agg (.int .i64 v0.1 :: (.sl (.pair (.int .i64) (.pair (.int .i64) (.int .i64))) v0.2.1 :: (cellsX T69 v0.2.2.1)))), (26, .sl (.int .i64) trace)] [] ?_
    obtain ⟨v0_3, hv7, h⟩ := Option.bind_eq_some_iff.1 h
    refine zC [] [] (hc_refine_frame_isTrace ((v0.1, v0.2.1), v0.2.2.1) trace hv7) [(27, .bool v0_3)] [] ?_
    refine zB [(4, .bool v0_3), (5, .int .i64 0)] [] ?_
    refine AW.ret ?_
    obtain rfl := Option.some.inj h
    exact zR [] [] []

theorem hc_linealref05_IsState (s : Int × (List (Int × Int × Int))) (n : Int) {r : Bool} (h : linealref05_IsState s n = some r) : HC Try.prog 62 [] [.agg [.int .i64 s.1, .sl (.pair (.int .i64) (.pair (.int .i64) (.int .i64))) s.2], .int .i64 n] [] (.bool r) := by
 unfold linealref05_IsState at h
 refine zH Try.func62 [.tmp 4] 13 ?_
 refine zo ?_
 refine zB [(1, .int .i64 n), (2, .bp 2 0)] [(2, .box 24 [.int .i64 s.1, .sl (.pair (.int .i64) (.pair (.int .i64) (.int .i64))) s.2])] ?_
 refine zo ?_
 refine zS 3 [(1, .int .i64 n), (2, .bp 2 0), (7, .bool (decide (0 ≤ n)))] [(2, .box 24 [.int .i64 s.1, .sl (.pair (.int .i64) (.pair (.int .i64) (.int .i64))) s.2])] ?_
 rcases zI h with ⟨hb1, h⟩ | ⟨hb1, h⟩
 ·refine zS 5 [(12, .bool (decide (n < s.1)))] [] ?_
  refine zB [(4, .bool (decide (n < s.1)))] [] ?_
  refine AW.ret ?_
  obtain rfl := Option.some.inj h
  exact zR [] [] []
 ·refine zS 4 [(7, .bool false), (11, .cv (undef))] [] ?_
  refine zB [(4, .bool false)] [] ?_
  refine AW.ret ?_
  obtain rfl := Option.some.inj h
  exact zR [] [] []

end Go.Proofs.Ytifleoceebaooaa
