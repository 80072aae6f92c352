/-
  Made by wip/tool/dc.py out of the print of the program: contracts.
-/
import Derived.Test.YteclokkdgmacpaaGrp
import Derived.Test.YteclokkdgmacpaaSh7
import Derived.Test.YteclokkdgmacpaaAvd
import Derived.Test.YteclokkdgmacpaaKlc2
import Derived.Test.YteclokkdgmacpaaKlc4
import Derived.Test.YteclokkdgmacpaaKlc6
import Derived.Test.YteclokkdgmacpaaKlc9
import Derived.Test.YteclokkdgmacpaaYa7
namespace Go.Proofs.Yteclokkdgmacpaa
open Go.RowKit
set_option linter.unusedSimpArgs false
set_option linter.unusedVariables false
set_option linter.constructorNameAsVariable false
set_option maxRecDepth 100000
set_option maxHeartbeats 2000000
theorem hc_slices_IndexFunc_12 (s:List Int) (c0:Int) (c0_2:List (Int×Int×Int×Bool)) (c0_3:Int) (c0_4:Int) {r:Int} (h:slices_IndexFunc_12 s c0 c0_2 c0_3 c0_4=some r):HC Try.prog 93 [(1000,.box 85 [.int .i64 c0,.sl Y7 c0_2,.fn (.func 95) [] [.dp (.int .i64) c0_3 0],.fn (.func 95) [] [.dp (.int .i64) c0_4 0]])] [.sl (.int .i64) s,.fn (.func 103) [] [.bp 1000 0]] [(1000,.box 85 [.int .i64 c0,.sl Y7 c0_2,.fn (.func 95) [] [.dp (.int .i64) c0_3 0],.fn (.func 95) [] [.dp (.int .i64) c0_4 0]])] (.int .i64 r):=by
 unfold slices_IndexFunc_12 at h
 refine zH Try.func93 [.tmp 4] 19 ?_
 refine zo ?_
 refine zB [(0,.sl (.int .i64) s),(1,.fn (.func 103) [] [.bp 1000 0])] [(1000,.box 85 [.int .i64 c0,.sl Y7 c0_2,.fn (.func 95) [] [.dp (.int .i64) c0_3 0],.fn (.func 95) [] [.dp (.int .i64) c0_4 0]])] ?_
 refine AW.have1 (fun _:Unit=>slices_IndexFunc_12_k1=some r) (fun _=>⟨fr [],hpGet [(1000,.box 85 [.int .i64 c0,.sl Y7 c0_2,.fn (.func 95) [] [.dp (.int .i64) c0_3 0],.fn (.func 95) [] [.dp (.int .i64) c0_4 0]])],gt⟩) (fun _ h=>?_) (fun hk_slices_IndexFunc_12_k1=>?_)
 ·as_aux_lemma =>
   unfold slices_IndexFunc_12_k1 at h
   refine zo ?_
   refine zB [(4,.int .i64 (-1))] [(1000,.box 85 [.int .i64 c0,.sl Y7 c0_2,.fn (.func 95) [] [.dp (.int .i64) c0_3 0],.fn (.func 95) [] [.dp (.int .i64) c0_4 0]])] ?_
   refine AW.ret ?_
   obtain rfl:=Option.some.inj h
   exact zR [] [] []
 ·refine AW.seq ?_
  refine zo ?_
  refine zB [(0,.sl (.int .i64) s),(1,.fn (.func 103) [] [.bp 1000 0]),(7,.int .i64 (s.length:Int)),(8,.int .i64 0)] [(1000,.box 85 [.int .i64 c0,.sl Y7 c0_2,.fn (.func 95) [] [.dp (.int .i64) c0_3 0],.fn (.func 95) [] [.dp (.int .i64) c0_4 0]])] ?_
  refine AW.block ?_
  obtain ⟨rv5,hw1,ho2⟩:=Option.bind_eq_some_iff.1 h
  refine AW.loopO (slices_IndexFunc_12_b1 s c0 c0_2 c0_3 c0_4) (fun st1=>⟨fr [(0,.sl (.int .i64) s),(1,.fn (.func 103) [] [.bp 1000 0]),(7,.int .i64 (s.length:Int)),(8,.int .i64 st1)],hpGet [(1000,.box 85 [.int .i64 c0,.sl Y7 c0_2,.fn (.func 95) [] [.dp (.int .i64) c0_3 0],.fn (.func 95) [] [.dp (.int .i64) c0_4 0]])],gt⟩) 0 hw1 (zL [] [] []) ?_
  as_aux_lemma =>
   intro st1 x4 h hd3
   unfold slices_IndexFunc_12_b1 at h
   refine zo ?_
   refine zB [(0,.sl (.int .i64) s),(1,.fn (.func 103) [] [.bp 1000 0]),(7,.int .i64 (s.length:Int)),(8,.int .i64 st1),(9,.bool (decide (st1 < (s.length:Int))))] [(1000,.box 85 [.int .i64 c0,.sl Y7 c0_2,.fn (.func 95) [] [.dp (.int .i64) c0_3 0],.fn (.func 95) [] [.dp (.int .i64) c0_4 0]])] ?_
   refine AW.seq ?_
   refine zQ h (fun hb6 h=>?_) (fun hb6 h=>?_)
   ·refine zk ?_
    refine AW.seq ?_
    refine AW.block ?_
    refine zo ?_
    refine zB [(0,.sl (.int .i64) s),(1,.fn (.func 103) [] [.bp 1000 0]),(5,.int .i64 st1),(7,.int .i64 (s.length:Int)),(8,.int .i64 st1)] [(1000,.box 85 [.int .i64 c0,.sl Y7 c0_2,.fn (.func 95) [] [.dp (.int .i64) c0_3 0],.fn (.func 95) [] [.dp (.int .i64) c0_4 0]])] ?_
    refine zo ?_
    obtain ⟨c7,h⟩:=ck_some.1 h
    obtain ⟨c8,h⟩:=ck_some.1 h
    refine zS 5 [(0,.sl (.int .i64) s),(1,.fn (.func 103) [] [.bp 1000 0]),(5,.int .i64 st1),(7,.int .i64 (s.length:Int)),(8,.int .i64 st1),(11,.fn (.func 103) [] [.bp 1000 0]),(15,.int .i64 (s.getD st1.toNat 0))] [(1000,.box 85 [.int .i64 c0,.sl Y7 c0_2,.fn (.func 95) [] [.dp (.int .i64) c0_3 0],.fn (.func 95) [] [.dp (.int .i64) c0_4 0]])] ?_
    obtain ⟨v0,hv9,h⟩:=Option.bind_eq_some_iff.1 h
    refine zC [] [(1000,1000)] (hc_progress_statement_isLasso_1_3 (s.getD st1.toNat 0) c0 c0_2 c0_3 c0_4 hv9) [(0,.sl (.int .i64) s),(1,.fn (.func 103) [] [.bp 1000 0]),(5,.int .i64 st1),(7,.int .i64 (s.length:Int)),(8,.int .i64 st1),(16,.bool v0)] [(1000,.box 85 [.int .i64 c0,.sl Y7 c0_2,.fn (.func 95) [] [.dp (.int .i64) c0_3 0],.fn (.func 95) [] [.dp (.int .i64) c0_4 0]])] ?_
    refine zB [(0,.sl (.int .i64) s),(1,.fn (.func 103) [] [.bp 1000 0]),(5,.int .i64 st1),(7,.int .i64 (s.length:Int)),(8,.int .i64 st1),(16,.bool v0)] [(1000,.box 85 [.int .i64 c0,.sl Y7 c0_2,.fn (.func 95) [] [.dp (.int .i64) c0_3 0],.fn (.func 95) [] [.dp (.int .i64) c0_4 0]])] ?_
    refine zQ h (fun hb10 h=>?_) (fun hb10 h=>?_)
    ·refine zo ?_
     refine zB [(4,.int .i64 st1)] [(1000,.box 85 [.int .i64 c0,.sl Y7 c0_2,.fn (.func 95) [] [.dp (.int .i64) c0_3 0],.fn (.func 95) [] [.dp (.int .i64) c0_4 0]])] ?_
     refine AW.ret ?_
     refine ablock_r ?_
     refine athen_r ?_
     obtain rfl:=Option.some.inj h
     rw [← hd3 _ rfl] at ho2
     have h:=ho2
     try simp only at h
     refine athen_r ?_
     refine ablock_r ?_
     refine athen_r ?_
     obtain rfl:=Option.some.inj h
     exact zR [] [] []
    ·refine zm ?_
     refine athen_n ?_
     refine AW.ops ?_
     obtain ⟨c11,h⟩:=ck_some.1 h
     refine zA [(0,.sl (.int .i64) s),(1,.fn (.func 103) [] [.bp 1000 0]),(7,.int .i64 (s.length:Int)),(8,.int .i64 (st1 + 1))] [(1000,.box 85 [.int .i64 c0,.sl Y7 c0_2,.fn (.func 95) [] [.dp (.int .i64) c0_3 0],.fn (.func 95) [] [.dp (.int .i64) c0_4 0]])] ?_
     obtain rfl:=Option.some.inj h
     exact ⟨_,rfl,zL [] [] []⟩
   ·refine AW.exit ?_
    refine athen_e ?_
    obtain rfl:=Option.some.inj h
    rw [← hd3 _ rfl] at ho2
    have h:=ho2
    try simp only at h
    refine athen_e ?_
    refine ablock_s ?_
    refine athen_n ?_
    exact AW.weaken (zL [] [] []) (hk_slices_IndexFunc_12_k1 () h)
theorem hc_slices_ContainsFunc_7 (s:List Int) (c0:Int) (c0_2:List (Int×Int×Int×Bool)) (c0_3:Int) (c0_4:Int) {r:Bool} (h:slices_ContainsFunc_7 s c0 c0_2 c0_3 c0_4=some r):HC Try.prog 99 [(1000,.box 85 [.int .i64 c0,.sl Y7 c0_2,.fn (.func 95) [] [.dp (.int .i64) c0_3 0],.fn (.func 95) [] [.dp (.int .i64) c0_4 0]])] [.sl (.int .i64) s,.fn (.func 103) [] [.bp 1000 0]] [(1000,.box 85 [.int .i64 c0,.sl Y7 c0_2,.fn (.func 95) [] [.dp (.int .i64) c0_3 0],.fn (.func 95) [] [.dp (.int .i64) c0_4 0]])] (.bool r):=by
 unfold slices_ContainsFunc_7 at h
 refine zH Try.func99 [.tmp 4] 9 ?_
 refine zo ?_
 refine zB [(0,.sl (.int .i64) s),(1,.fn (.func 103) [] [.bp 1000 0])] [(1000,.box 85 [.int .i64 c0,.sl Y7 c0_2,.fn (.func 95) [] [.dp (.int .i64) c0_3 0],.fn (.func 95) [] [.dp (.int .i64) c0_4 0]])] ?_
 refine zo ?_
 refine zS 2 [(5,.sl (.int .i64) s),(6,.fn (.func 103) [] [.bp 1000 0])] [(1000,.box 85 [.int .i64 c0,.sl Y7 c0_2,.fn (.func 95) [] [.dp (.int .i64) c0_3 0],.fn (.func 95) [] [.dp (.int .i64) c0_4 0]])] ?_
 obtain ⟨v0,hv1,h⟩:=Option.bind_eq_some_iff.1 h
 refine zC [] [(1000,1000)] (hc_slices_IndexFunc_12 s c0 c0_2 c0_3 c0_4 hv1) [(7,.int .i64 v0)] [(1000,.box 85 [.int .i64 c0,.sl Y7 c0_2,.fn (.func 95) [] [.dp (.int .i64) c0_3 0],.fn (.func 95) [] [.dp (.int .i64) c0_4 0]])] ?_
 refine zB [(4,.bool (decide (0≤v0)))] [(1000,.box 85 [.int .i64 c0,.sl Y7 c0_2,.fn (.func 95) [] [.dp (.int .i64) c0_3 0],.fn (.func 95) [] [.dp (.int .i64) c0_4 0]])] ?_
 refine AW.ret ?_
 obtain rfl:=Option.some.inj h
 exact zR [] [] []
theorem hc_progress_statement_isLasso_2_3 (move:Int) (a1:Int) (a1_2:List (Int×Int×Int×Bool)) (c0:Int) (c0_2:Int) {r:Bool} (h:progress_statement_isLasso_2_3 move a1 a1_2 c0 c0_2=some r):HC Try.prog 104 [(1000,.box 85 [.int .i64 a1,.sl Y7 a1_2,.fn (.func 95) [] [.dp (.int .i64) c0 0],.fn (.func 95) [] [.dp (.int .i64) c0_2 0]])] [.int .i64 move,.bp 1000 0] [(1000,.box 85 [.int .i64 a1,.sl Y7 a1_2,.fn (.func 95) [] [.dp (.int .i64) c0 0],.fn (.func 95) [] [.dp (.int .i64) c0_2 0]])] (.bool r):=by
 unfold progress_statement_isLasso_2_3 at h
 refine zH Try.func104 [.tmp 3] 13 ?_
 refine zo ?_
 refine zB [(0,.int .i64 move),(1,.bp 1000 0)] [(1000,.box 85 [.int .i64 a1,.sl Y7 a1_2,.fn (.func 95) [] [.dp (.int .i64) c0 0],.fn (.func 95) [] [.dp (.int .i64) c0_2 0]])] ?_
 refine AW.seq ?_
 refine AW.draw tab_ok mixed_ok [] [] (by decide) (lex_fast (by kernel_rfl)) ?_
 as_aux_lemma =>
  refine adops_cut 6 (fun K' hK1=>?_)
  try dsimp only [List.drop_succ_cons,List.drop_zero,List.take_succ_cons,List.take_zero]
  simp only [go_sem]
  repeat with_reducible refine zN ?_
  refine hK1 _ ?_
  as_aux_lemma =>
   obtain ⟨c3,h⟩:=ck_some.1 h
   obtain ⟨c4,h⟩:=ck_some.1 h
   refine adops_cut 2 (fun K' hK2=>?_)
   try dsimp only [List.drop_succ_cons,List.drop_zero,List.take_succ_cons,List.take_zero]
   simp only [go_sem]
   repeat with_reducible refine zN ?_
   refine hK2 _ ?_
   as_aux_lemma =>
    obtain ⟨v0,hv5,h⟩:=Option.bind_eq_some_iff.1 h
    refine adops.call (by first | trivial | rfl) rfl rfl rfl (fun _ h=>h) [] [] (hc_progress_statementOf_2 (a1_2.getD move.toNat (0,0,0,false)) c0_2 hv5) rfl (by (simp only [go_sem]) <;> (with_reducible and_intros) <;> first | assumption | rfl | omega | (unfold maxLen; omega)) (by (simp only [go_sem]) <;> (with_reducible and_intros) <;> first | assumption | rfl | omega | (unfold maxLen; omega)) rfl ?_
    refine adops_cut 1 (fun K' hK6=>?_)
    try dsimp only [List.drop_succ_cons,List.drop_zero,List.take_succ_cons,List.take_zero]
    simp only [go_sem]
    repeat with_reducible refine zN ?_
    refine hK6 _ ?_
    refine adops_nil ?_
    refine athen_n ?_
    refine zV [(3,.bool v0)] [(1000,.box 85 [.int .i64 a1,.sl Y7 a1_2,.fn (.func 95) [] [.dp (.int .i64) c0 0],.fn (.func 95) [] [.dp (.int .i64) c0_2 0]])] gt ?_
    as_aux_lemma =>
     refine AW.ret ?_
     obtain rfl:=Option.some.inj h
     exact zR [] [] []
theorem hc_slices_IndexFunc_13 (s:List Int) (c0:Int) (c0_2:List (Int×Int×Int×Bool)) (c0_3:Int) (c0_4:Int) {r:Int} (h:slices_IndexFunc_13 s c0 c0_2 c0_3 c0_4=some r):HC Try.prog 93 [(1000,.box 85 [.int .i64 c0,.sl Y7 c0_2,.fn (.func 95) [] [.dp (.int .i64) c0_3 0],.fn (.func 95) [] [.dp (.int .i64) c0_4 0]])] [.sl (.int .i64) s,.fn (.func 104) [] [.bp 1000 0]] [(1000,.box 85 [.int .i64 c0,.sl Y7 c0_2,.fn (.func 95) [] [.dp (.int .i64) c0_3 0],.fn (.func 95) [] [.dp (.int .i64) c0_4 0]])] (.int .i64 r):=by
 unfold slices_IndexFunc_13 at h
 refine zH Try.func93 [.tmp 4] 19 ?_
 refine zo ?_
 refine zB [(0,.sl (.int .i64) s),(1,.fn (.func 104) [] [.bp 1000 0])] [(1000,.box 85 [.int .i64 c0,.sl Y7 c0_2,.fn (.func 95) [] [.dp (.int .i64) c0_3 0],.fn (.func 95) [] [.dp (.int .i64) c0_4 0]])] ?_
 refine AW.have1 (fun _:Unit=>slices_IndexFunc_13_k1=some r) (fun _=>⟨fr [],hpGet [(1000,.box 85 [.int .i64 c0,.sl Y7 c0_2,.fn (.func 95) [] [.dp (.int .i64) c0_3 0],.fn (.func 95) [] [.dp (.int .i64) c0_4 0]])],gt⟩) (fun _ h=>?_) (fun hk_slices_IndexFunc_13_k1=>?_)
 ·as_aux_lemma =>
   unfold slices_IndexFunc_13_k1 at h
   refine zo ?_
   refine zB [(4,.int .i64 (-1))] [(1000,.box 85 [.int .i64 c0,.sl Y7 c0_2,.fn (.func 95) [] [.dp (.int .i64) c0_3 0],.fn (.func 95) [] [.dp (.int .i64) c0_4 0]])] ?_
   refine AW.ret ?_
   obtain rfl:=Option.some.inj h
   exact zR [] [] []
 ·refine AW.seq ?_
  refine zo ?_
  refine zB [(0,.sl (.int .i64) s),(1,.fn (.func 104) [] [.bp 1000 0]),(7,.int .i64 (s.length:Int)),(8,.int .i64 0)] [(1000,.box 85 [.int .i64 c0,.sl Y7 c0_2,.fn (.func 95) [] [.dp (.int .i64) c0_3 0],.fn (.func 95) [] [.dp (.int .i64) c0_4 0]])] ?_
  refine AW.block ?_
  obtain ⟨rv5,hw1,ho2⟩:=Option.bind_eq_some_iff.1 h
  refine AW.loopO (slices_IndexFunc_13_b1 s c0 c0_2 c0_3 c0_4) (fun st1=>⟨fr [(0,.sl (.int .i64) s),(1,.fn (.func 104) [] [.bp 1000 0]),(7,.int .i64 (s.length:Int)),(8,.int .i64 st1)],hpGet [(1000,.box 85 [.int .i64 c0,.sl Y7 c0_2,.fn (.func 95) [] [.dp (.int .i64) c0_3 0],.fn (.func 95) [] [.dp (.int .i64) c0_4 0]])],gt⟩) 0 hw1 (zL [] [] []) ?_
  as_aux_lemma =>
   intro st1 x4 h hd3
   unfold slices_IndexFunc_13_b1 at h
   refine zo ?_
   refine zB [(0,.sl (.int .i64) s),(1,.fn (.func 104) [] [.bp 1000 0]),(7,.int .i64 (s.length:Int)),(8,.int .i64 st1),(9,.bool (decide (st1 < (s.length:Int))))] [(1000,.box 85 [.int .i64 c0,.sl Y7 c0_2,.fn (.func 95) [] [.dp (.int .i64) c0_3 0],.fn (.func 95) [] [.dp (.int .i64) c0_4 0]])] ?_
   refine AW.seq ?_
   refine zQ h (fun hb6 h=>?_) (fun hb6 h=>?_)
   ·refine zk ?_
    refine AW.seq ?_
    refine AW.block ?_
    refine zo ?_
    refine zB [(0,.sl (.int .i64) s),(1,.fn (.func 104) [] [.bp 1000 0]),(5,.int .i64 st1),(7,.int .i64 (s.length:Int)),(8,.int .i64 st1)] [(1000,.box 85 [.int .i64 c0,.sl Y7 c0_2,.fn (.func 95) [] [.dp (.int .i64) c0_3 0],.fn (.func 95) [] [.dp (.int .i64) c0_4 0]])] ?_
    refine zo ?_
    obtain ⟨c7,h⟩:=ck_some.1 h
    obtain ⟨c8,h⟩:=ck_some.1 h
    refine zS 5 [(0,.sl (.int .i64) s),(1,.fn (.func 104) [] [.bp 1000 0]),(5,.int .i64 st1),(7,.int .i64 (s.length:Int)),(8,.int .i64 st1),(11,.fn (.func 104) [] [.bp 1000 0]),(15,.int .i64 (s.getD st1.toNat 0))] [(1000,.box 85 [.int .i64 c0,.sl Y7 c0_2,.fn (.func 95) [] [.dp (.int .i64) c0_3 0],.fn (.func 95) [] [.dp (.int .i64) c0_4 0]])] ?_
    obtain ⟨v0,hv9,h⟩:=Option.bind_eq_some_iff.1 h
    refine zC [] [(1000,1000)] (hc_progress_statement_isLasso_2_3 (s.getD st1.toNat 0) c0 c0_2 c0_3 c0_4 hv9) [(0,.sl (.int .i64) s),(1,.fn (.func 104) [] [.bp 1000 0]),(5,.int .i64 st1),(7,.int .i64 (s.length:Int)),(8,.int .i64 st1),(16,.bool v0)] [(1000,.box 85 [.int .i64 c0,.sl Y7 c0_2,.fn (.func 95) [] [.dp (.int .i64) c0_3 0],.fn (.func 95) [] [.dp (.int .i64) c0_4 0]])] ?_
    refine zB [(0,.sl (.int .i64) s),(1,.fn (.func 104) [] [.bp 1000 0]),(5,.int .i64 st1),(7,.int .i64 (s.length:Int)),(8,.int .i64 st1),(16,.bool v0)] [(1000,.box 85 [.int .i64 c0,.sl Y7 c0_2,.fn (.func 95) [] [.dp (.int .i64) c0_3 0],.fn (.func 95) [] [.dp (.int .i64) c0_4 0]])] ?_
    refine zQ h (fun hb10 h=>?_) (fun hb10 h=>?_)
    ·refine zo ?_
     refine zB [(4,.int .i64 st1)] [(1000,.box 85 [.int .i64 c0,.sl Y7 c0_2,.fn (.func 95) [] [.dp (.int .i64) c0_3 0],.fn (.func 95) [] [.dp (.int .i64) c0_4 0]])] ?_
     refine AW.ret ?_
     refine ablock_r ?_
     refine athen_r ?_
     obtain rfl:=Option.some.inj h
     rw [← hd3 _ rfl] at ho2
     have h:=ho2
     try simp only at h
     refine athen_r ?_
     refine ablock_r ?_
     refine athen_r ?_
     obtain rfl:=Option.some.inj h
     exact zR [] [] []
    ·refine zm ?_
     refine athen_n ?_
     refine AW.ops ?_
     obtain ⟨c11,h⟩:=ck_some.1 h
     refine zA [(0,.sl (.int .i64) s),(1,.fn (.func 104) [] [.bp 1000 0]),(7,.int .i64 (s.length:Int)),(8,.int .i64 (st1 + 1))] [(1000,.box 85 [.int .i64 c0,.sl Y7 c0_2,.fn (.func 95) [] [.dp (.int .i64) c0_3 0],.fn (.func 95) [] [.dp (.int .i64) c0_4 0]])] ?_
     obtain rfl:=Option.some.inj h
     exact ⟨_,rfl,zL [] [] []⟩
   ·refine AW.exit ?_
    refine athen_e ?_
    obtain rfl:=Option.some.inj h
    rw [← hd3 _ rfl] at ho2
    have h:=ho2
    try simp only at h
    refine athen_e ?_
    refine ablock_s ?_
    refine athen_n ?_
    exact AW.weaken (zL [] [] []) (hk_slices_IndexFunc_13_k1 () h)
theorem hc_slices_ContainsFunc_8 (s:List Int) (c0:Int) (c0_2:List (Int×Int×Int×Bool)) (c0_3:Int) (c0_4:Int) {r:Bool} (h:slices_ContainsFunc_8 s c0 c0_2 c0_3 c0_4=some r):HC Try.prog 99 [(1000,.box 85 [.int .i64 c0,.sl Y7 c0_2,.fn (.func 95) [] [.dp (.int .i64) c0_3 0],.fn (.func 95) [] [.dp (.int .i64) c0_4 0]])] [.sl (.int .i64) s,.fn (.func 104) [] [.bp 1000 0]] [(1000,.box 85 [.int .i64 c0,.sl Y7 c0_2,.fn (.func 95) [] [.dp (.int .i64) c0_3 0],.fn (.func 95) [] [.dp (.int .i64) c0_4 0]])] (.bool r):=by
 unfold slices_ContainsFunc_8 at h
 refine zH Try.func99 [.tmp 4] 9 ?_
 refine zo ?_
 refine zB [(0,.sl (.int .i64) s),(1,.fn (.func 104) [] [.bp 1000 0])] [(1000,.box 85 [.int .i64 c0,.sl Y7 c0_2,.fn (.func 95) [] [.dp (.int .i64) c0_3 0],.fn (.func 95) [] [.dp (.int .i64) c0_4 0]])] ?_
 refine zo ?_
 refine zS 2 [(5,.sl (.int .i64) s),(6,.fn (.func 104) [] [.bp 1000 0])] [(1000,.box 85 [.int .i64 c0,.sl Y7 c0_2,.fn (.func 95) [] [.dp (.int .i64) c0_3 0],.fn (.func 95) [] [.dp (.int .i64) c0_4 0]])] ?_
 obtain ⟨v0,hv1,h⟩:=Option.bind_eq_some_iff.1 h
 refine zC [] [(1000,1000)] (hc_slices_IndexFunc_13 s c0 c0_2 c0_3 c0_4 hv1) [(7,.int .i64 v0)] [(1000,.box 85 [.int .i64 c0,.sl Y7 c0_2,.fn (.func 95) [] [.dp (.int .i64) c0_3 0],.fn (.func 95) [] [.dp (.int .i64) c0_4 0]])] ?_
 refine zB [(4,.bool (decide (0≤v0)))] [(1000,.box 85 [.int .i64 c0,.sl Y7 c0_2,.fn (.func 95) [] [.dp (.int .i64) c0_3 0],.fn (.func 95) [] [.dp (.int .i64) c0_4 0]])] ?_
 refine AW.ret ?_
 obtain rfl:=Option.some.inj h
 exact zR [] [] []
theorem hc_progress_statement_isLasso_3 (s:Int) (s_2:List (Int×Int×Int×Bool)) (c0:Int) (c0_2:Int) (path:List Int) (circle:List Int) {r:Bool} (h:progress_statement_isLasso_3 s s_2 c0 c0_2 path circle=some r):HC Try.prog 78 [] [.agg [.int .i64 s,.sl Y7 s_2,.fn (.func 95) [] [.dp (.int .i64) c0 0],.fn (.func 95) [] [.dp (.int .i64) c0_2 0]],.sl (.int .i64) path,.sl (.int .i64) circle] [] (.bool r):=by
 unfold progress_statement_isLasso_3 at h
 refine zH Try.func78 [.tmp 6] 47 ?_
 refine zo ?_
 refine zB [(1,.sl (.int .i64) path),(2,.sl (.int .i64) circle),(3,.bp 3 0)] [(3,.box 85 [.int .i64 s,.sl Y7 s_2,.fn (.func 95) [] [.dp (.int .i64) c0 0],.fn (.func 95) [] [.dp (.int .i64) c0_2 0]])] ?_
 refine zo ?_
 refine zS 3 [(2,.sl (.int .i64) circle),(3,.bp 3 0),(14,.agg [.int .i64 s,.sl Y7 s_2]),(15,.sl (.int .i64) path)] [(3,.box 85 [.int .i64 s,.sl Y7 s_2,.fn (.func 95) [] [.dp (.int .i64) c0 0],.fn (.func 95) [] [.dp (.int .i64) c0_2 0]])] ?_
 obtain ⟨v0,hv1,h⟩:=Option.bind_eq_some_iff.1 h
 refine zC [] [] (hc_progress_graph_leads (s,s_2) 0 path hv1) [(2,.sl (.int .i64) circle),(3,.bp 3 0),(16,.tup [.int .i64 v0.1,.bool v0.2])] [(3,.box 85 [.int .i64 s,.sl Y7 s_2,.fn (.func 95) [] [.dp (.int .i64) c0 0],.fn (.func 95) [] [.dp (.int .i64) c0_2 0]])] ?_
 refine zB [(2,.sl (.int .i64) circle),(3,.bp 3 0),(7,.int .i64 v0.1),(8,.bool v0.2)] [(3,.box 85 [.int .i64 s,.sl Y7 s_2,.fn (.func 95) [] [.dp (.int .i64) c0 0],.fn (.func 95) [] [.dp (.int .i64) c0_2 0]])] ?_
 refine AW.seq ?_
 refine zo ?_
 refine zB [(2,.sl (.int .i64) circle),(3,.bp 3 0),(7,.int .i64 v0.1),(20,.bool (!v0.2))] [(3,.box 85 [.int .i64 s,.sl Y7 s_2,.fn (.func 95) [] [.dp (.int .i64) c0 0],.fn (.func 95) [] [.dp (.int .i64) c0_2 0]])] ?_
 refine zQ h (fun hb2 h=>?_) (fun hb2 h=>?_)
 ·refine zo ?_
  refine zB [(6,.bool false)] [] ?_
  refine zr ?_
  obtain rfl:=Option.some.inj h
  exact zR [] [] []
 ·refine zk ?_
  refine zo ?_
  refine zS 4 [(2,.sl (.int .i64) circle),(3,.bp 3 0),(7,.int .i64 v0.1),(23,.agg [.int .i64 s,.sl Y7 s_2]),(24,.int .i64 v0.1),(25,.sl (.int .i64) circle)] [(3,.box 85 [.int .i64 s,.sl Y7 s_2,.fn (.func 95) [] [.dp (.int .i64) c0 0],.fn (.func 95) [] [.dp (.int .i64) c0_2 0]])] ?_
  obtain ⟨v0_2,hv3,h⟩:=Option.bind_eq_some_iff.1 h
  refine zC [] [] (hc_progress_graph_leads (s,s_2) v0.1 circle hv3) [(2,.sl (.int .i64) circle),(3,.bp 3 0),(7,.int .i64 v0.1),(26,.tup [.int .i64 v0_2.1,.bool v0_2.2])] [(3,.box 85 [.int .i64 s,.sl Y7 s_2,.fn (.func 95) [] [.dp (.int .i64) c0 0],.fn (.func 95) [] [.dp (.int .i64) c0_2 0]])] ?_
  refine zB [(2,.sl (.int .i64) circle),(3,.bp 3 0),(7,.int .i64 v0.1),(8,.bool v0_2.2),(9,.int .i64 v0_2.1)] [(3,.box 85 [.int .i64 s,.sl Y7 s_2,.fn (.func 95) [] [.dp (.int .i64) c0 0],.fn (.func 95) [] [.dp (.int .i64) c0_2 0]])] ?_
  refine AW.seq ?_
  refine zo ?_
  refine zS 3 [(2,.sl (.int .i64) circle),(3,.bp 3 0),(7,.int .i64 v0.1),(9,.int .i64 v0_2.1),(31,.bool (!v0_2.2))] [(3,.box 85 [.int .i64 s,.sl Y7 s_2,.fn (.func 95) [] [.dp (.int .i64) c0 0],.fn (.func 95) [] [.dp (.int .i64) c0_2 0]])] ?_
  rcases zI h with ⟨hb4,h⟩ | ⟨hb4,h⟩
  ·refine zB [(2,.sl (.int .i64) circle),(3,.bp 3 0),(35,.bool true)] [(3,.box 85 [.int .i64 s,.sl Y7 s_2,.fn (.func 95) [] [.dp (.int .i64) c0 0],.fn (.func 95) [] [.dp (.int .i64) c0_2 0]])] ?_
   refine AW.cond (b:=true) rfl (fun _=>?_) (fun hb5=>by cases hb5)
   refine zo ?_
   refine zB [(6,.bool false)] [] ?_
   refine zr ?_
   obtain rfl:=Option.some.inj h
   exact zR [] [] []
  ·refine zB [(2,.sl (.int .i64) circle),(3,.bp 3 0),(35,.bool (!(decide (v0_2.1=v0.1))))] [(3,.box 85 [.int .i64 s,.sl Y7 s_2,.fn (.func 95) [] [.dp (.int .i64) c0 0],.fn (.func 95) [] [.dp (.int .i64) c0_2 0]])] ?_
   refine zQ h (fun hb6 h=>?_) (fun hb6 h=>?_)
   ·refine zo ?_
    refine zB [(6,.bool false)] [] ?_
    refine zr ?_
    obtain rfl:=Option.some.inj h
    exact zR [] [] []
   ·refine zk ?_
    refine zo ?_
    refine zB [(2,.sl (.int .i64) circle),(3,.bp 3 0),(10,.fn (.func 103) [] [.bp 3 0])] [(3,.box 85 [.int .i64 s,.sl Y7 s_2,.fn (.func 95) [] [.dp (.int .i64) c0 0],.fn (.func 95) [] [.dp (.int .i64) c0_2 0]])] ?_
    refine zo ?_
    refine zB [(2,.sl (.int .i64) circle),(10,.fn (.func 103) [] [.bp 3 0]),(11,.fn (.func 104) [] [.bp 3 0])] [(3,.box 85 [.int .i64 s,.sl Y7 s_2,.fn (.func 95) [] [.dp (.int .i64) c0 0],.fn (.func 95) [] [.dp (.int .i64) c0_2 0]])] ?_
    refine zo ?_
    refine zS 2 [(2,.sl (.int .i64) circle),(11,.fn (.func 104) [] [.bp 3 0]),(38,.sl (.int .i64) circle),(39,.fn (.func 103) [] [.bp 3 0])] [(3,.box 85 [.int .i64 s,.sl Y7 s_2,.fn (.func 95) [] [.dp (.int .i64) c0 0],.fn (.func 95) [] [.dp (.int .i64) c0_2 0]])] ?_
    obtain ⟨v0_3,hv7,h⟩:=Option.bind_eq_some_iff.1 h
    refine zC [] [(1000,3)] (hc_slices_ContainsFunc_7 circle s s_2 c0 c0_2 hv7) [(2,.sl (.int .i64) circle),(11,.fn (.func 104) [] [.bp 3 0]),(40,.bool v0_3)] [(3,.box 85 [.int .i64 s,.sl Y7 s_2,.fn (.func 95) [] [.dp (.int .i64) c0 0],.fn (.func 95) [] [.dp (.int .i64) c0_2 0]])] ?_
    refine zS 2 [(2,.sl (.int .i64) circle),(11,.fn (.func 104) [] [.bp 3 0]),(42,.bool (!v0_3))] [(3,.box 85 [.int .i64 s,.sl Y7 s_2,.fn (.func 95) [] [.dp (.int .i64) c0 0],.fn (.func 95) [] [.dp (.int .i64) c0_2 0]])] ?_
    rcases zI h with ⟨hb8,h⟩ | ⟨hb8,h⟩
    ·refine zS 2 [(42,.bool true),(43,.sl (.int .i64) circle),(44,.fn (.func 104) [] [.bp 3 0])] [(3,.box 85 [.int .i64 s,.sl Y7 s_2,.fn (.func 95) [] [.dp (.int .i64) c0 0],.fn (.func 95) [] [.dp (.int .i64) c0_2 0]])] ?_
     obtain ⟨v0_4,hv9,h⟩:=Option.bind_eq_some_iff.1 h
     refine zG [] [(1000,3)] (hc_slices_ContainsFunc_8 circle s s_2 c0 c0_2 hv9) [(42,.bool true),(45,.bool v0_4)] [] ?_
     refine zB [(6,.bool v0_4)] [] ?_
     refine AW.ret ?_
     obtain rfl:=Option.some.inj h
     exact zR [] [] []
    ·refine zB [(6,.bool false)] [] ?_
     refine AW.ret ?_
     obtain rfl:=Option.some.inj h
     exact zR [] [] []
theorem hc_progress_Refutes (g:Int×(List (Int×Int×Int×Bool))) (claim:Int) (thread:Int) (path:List Int) (circle:List Int) {r:Bool×Int} (h:progress_Refutes g claim thread path circle=some r):HC Try.prog 35 [] [.agg [.int .i64 g.1,.sl Y7 g.2],.int .i64 claim,.int .i64 thread,.sl (.int .i64) path,.sl (.int .i64) circle] [] (.tup [.bool r.1,.int .i64 r.2]):=by
 unfold progress_Refutes at h
 refine zH Try.func35 [.tmp 10,.tmp 11] 28 ?_
 refine zo ?_
 refine zB [(1,.int .i64 claim),(2,.int .i64 thread),(3,.sl (.int .i64) path),(4,.sl (.int .i64) circle),(5,.bp 5 0)] [(5,.box 24 [.int .i64 g.1,.sl Y7 g.2])] ?_
 refine zo ?_
 refine zS 3 [(3,.sl (.int .i64) path),(4,.sl (.int .i64) circle),(15,.agg [.int .i64 g.1,.sl Y7 g.2]),(16,.int .i64 claim),(17,.int .i64 thread)] [] ?_
 obtain ⟨v0,hv1,h⟩:=Option.bind_eq_some_iff.1 h
 rcases v0 with v0_2 | v0_3 | v0_4 | v0_5
 ·try simp only at h
  refine zC [] [] (hc_progress_statementOf_a0 g claim thread hv1) [(3,.sl (.int .i64) path),(4,.sl (.int .i64) circle),(18,.tup [.agg [.int .i64 0,.cv (.slice none 0 0),.cv (.nilFunc),.cv (.nilFunc)],.int .i64 v0_2])] [] ?_
  refine zS 5 [(3,.sl (.int .i64) path),(4,.sl (.int .i64) circle),(12,.bp 12 0),(20,.int .i64 v0_2)] [(12,.box 85 [.int .i64 0,.cv (.slice none 0 0),.cv (.nilFunc),.cv (.nilFunc)])] ?_
  refine zB [(3,.sl (.int .i64) path),(4,.sl (.int .i64) circle),(12,.bp 12 0),(13,.int .i64 v0_2)] [(12,.box 85 [.int .i64 0,.cv (.slice none 0 0),.cv (.nilFunc),.cv (.nilFunc)])] ?_
  refine AW.seq ?_
  refine zo ?_
  refine zB [(3,.sl (.int .i64) path),(4,.sl (.int .i64) circle),(12,.bp 12 0),(13,.int .i64 v0_2),(22,.bool (!(decide (v0_2=0))))] [(12,.box 85 [.int .i64 0,.cv (.slice none 0 0),.cv (.nilFunc),.cv (.nilFunc)])] ?_
  refine zQ h (fun hb2 h=>?_) (fun hb2 h=>?_)
  ·refine zo ?_
   refine zB [(10,.bool false),(11,.int .i64 v0_2)] [] ?_
   refine zr ?_
   obtain rfl:=Option.some.inj h
   exact zR [] [] []
  ·refine zk ?_
   refine zo ?_
   cases h
 ·try simp only at h
  refine zC [] [] (hc_progress_statementOf_a1 g claim thread hv1) [(3,.sl (.int .i64) path),(4,.sl (.int .i64) circle),(18,.tup [.agg [.int .i64 v0_3.1,.sl Y7 v0_3.2,.fn (.func 94) [] [],.fn (.func 94) [] []],.int .i64 0])] [] ?_
  refine zS 5 [(3,.sl (.int .i64) path),(4,.sl (.int .i64) circle),(12,.bp 12 0),(20,.int .i64 0)] [(12,.box 85 [.int .i64 v0_3.1,.sl Y7 v0_3.2,.fn (.func 94) [] [],.fn (.func 94) [] []])] ?_
  refine zB [(3,.sl (.int .i64) path),(4,.sl (.int .i64) circle),(12,.bp 12 0),(13,.int .i64 0)] [(12,.box 85 [.int .i64 v0_3.1,.sl Y7 v0_3.2,.fn (.func 94) [] [],.fn (.func 94) [] []])] ?_
  refine AW.seq ?_
  refine zo ?_
  refine zB [(3,.sl (.int .i64) path),(4,.sl (.int .i64) circle),(12,.bp 12 0),(13,.int .i64 0),(22,.bool false)] [(12,.box 85 [.int .i64 v0_3.1,.sl Y7 v0_3.2,.fn (.func 94) [] [],.fn (.func 94) [] []])] ?_
  refine AW.cond (b:=false) rfl (fun hb3=>by cases hb3) (fun _=>?_)
  refine zk ?_
  refine zo ?_
  refine zS 3 [(24,.agg [.int .i64 v0_3.1,.sl Y7 v0_3.2,.fn (.func 94) [] [],.fn (.func 94) [] []]),(25,.sl (.int .i64) path),(26,.sl (.int .i64) circle)] [] ?_
  obtain ⟨v0_6,hv4,h⟩:=Option.bind_eq_some_iff.1 h
  refine zC [] [] (hc_progress_statement_isLasso v0_3.1 v0_3.2 path circle hv4) [(27,.bool v0_6)] [] ?_
  refine zB [(10,.bool v0_6),(11,.int .i64 0)] [] ?_
  refine AW.ret ?_
  obtain rfl:=Option.some.inj h
  exact zR [] [] []
 ·try simp only at h
  refine zC [] [] (hc_progress_statementOf_a2 g claim thread hv1) [(3,.sl (.int .i64) path),(4,.sl (.int .i64) circle),(18,.tup [.agg [.int .i64 v0_4.1,.sl Y7 v0_4.2,.fn (.func 96) [] [.bp 28000 0],.fn (.func 95) [] [.bp 28000 0]],.int .i64 0])] [(28000,.box 3 [.int .i64 thread])] ?_
  refine AO.weaken (s':=⟨fr [(3,.sl (.int .i64) path),(4,.sl (.int .i64) circle),(18,.tup [.agg [.int .i64 v0_4.1,.sl Y7 v0_4.2,.fn (.func 96) [] [.dp (.int .i64) thread 0],.fn (.func 95) [] [.dp (.int .i64) thread 0]],.int .i64 0])],hpGet [],gt⟩) (Wk.boxes [28000] rfl rfl (by (simp only [go_sem]) <;> (with_reducible and_intros) <;> first | assumption | rfl | omega | (unfold maxLen; omega)) (by (simp only [go_sem]) <;> (with_reducible and_intros) <;> first | assumption | rfl | omega | (unfold maxLen; omega))) ?_
  refine zS 5 [(3,.sl (.int .i64) path),(4,.sl (.int .i64) circle),(12,.bp 12 0),(20,.int .i64 0)] [(12,.box 85 [.int .i64 v0_4.1,.sl Y7 v0_4.2,.fn (.func 96) [] [.dp (.int .i64) thread 0],.fn (.func 95) [] [.dp (.int .i64) thread 0]])] ?_
  refine zB [(3,.sl (.int .i64) path),(4,.sl (.int .i64) circle),(12,.bp 12 0),(13,.int .i64 0)] [(12,.box 85 [.int .i64 v0_4.1,.sl Y7 v0_4.2,.fn (.func 96) [] [.dp (.int .i64) thread 0],.fn (.func 95) [] [.dp (.int .i64) thread 0]])] ?_
  refine AW.seq ?_
  refine zo ?_
  refine zB [(3,.sl (.int .i64) path),(4,.sl (.int .i64) circle),(12,.bp 12 0),(13,.int .i64 0),(22,.bool false)] [(12,.box 85 [.int .i64 v0_4.1,.sl Y7 v0_4.2,.fn (.func 96) [] [.dp (.int .i64) thread 0],.fn (.func 95) [] [.dp (.int .i64) thread 0]])] ?_
  refine AW.cond (b:=false) rfl (fun hb5=>by cases hb5) (fun _=>?_)
  refine zk ?_
  refine zo ?_
  refine zS 3 [(24,.agg [.int .i64 v0_4.1,.sl Y7 v0_4.2,.fn (.func 96) [] [.dp (.int .i64) thread 0],.fn (.func 95) [] [.dp (.int .i64) thread 0]]),(25,.sl (.int .i64) path),(26,.sl (.int .i64) circle)] [] ?_
  obtain ⟨v0_7,hv6,h⟩:=Option.bind_eq_some_iff.1 h
  refine zC [] [] (hc_progress_statement_isLasso_v2 v0_4.1 v0_4.2 thread thread path circle hv6) [(27,.bool v0_7)] [] ?_
  refine zB [(10,.bool v0_7),(11,.int .i64 0)] [] ?_
  refine AW.ret ?_
  obtain rfl:=Option.some.inj h
  exact zR [] [] []
 ·try simp only at h
  refine zC [] [] (hc_progress_statementOf_a3 g claim thread hv1) [(3,.sl (.int .i64) path),(4,.sl (.int .i64) circle),(18,.tup [.agg [.int .i64 v0_5.1,.sl Y7 v0_5.2,.fn (.func 95) [] [.bp 28000 0],.fn (.func 95) [] [.bp 28000 0]],.int .i64 0])] [(28000,.box 3 [.int .i64 thread])] ?_
  refine AO.weaken (s':=⟨fr [(3,.sl (.int .i64) path),(4,.sl (.int .i64) circle),(18,.tup [.agg [.int .i64 v0_5.1,.sl Y7 v0_5.2,.fn (.func 95) [] [.dp (.int .i64) thread 0],.fn (.func 95) [] [.dp (.int .i64) thread 0]],.int .i64 0])],hpGet [],gt⟩) (Wk.boxes [28000] rfl rfl (by (simp only [go_sem]) <;> (with_reducible and_intros) <;> first | assumption | rfl | omega | (unfold maxLen; omega)) (by (simp only [go_sem]) <;> (with_reducible and_intros) <;> first | assumption | rfl | omega | (unfold maxLen; omega))) ?_
  refine zS 5 [(3,.sl (.int .i64) path),(4,.sl (.int .i64) circle),(12,.bp 12 0),(20,.int .i64 0)] [(12,.box 85 [.int .i64 v0_5.1,.sl Y7 v0_5.2,.fn (.func 95) [] [.dp (.int .i64) thread 0],.fn (.func 95) [] [.dp (.int .i64) thread 0]])] ?_
  refine zB [(3,.sl (.int .i64) path),(4,.sl (.int .i64) circle),(12,.bp 12 0),(13,.int .i64 0)] [(12,.box 85 [.int .i64 v0_5.1,.sl Y7 v0_5.2,.fn (.func 95) [] [.dp (.int .i64) thread 0],.fn (.func 95) [] [.dp (.int .i64) thread 0]])] ?_
  refine AW.seq ?_
  refine zo ?_
  refine zB [(3,.sl (.int .i64) path),(4,.sl (.int .i64) circle),(12,.bp 12 0),(13,.int .i64 0),(22,.bool false)] [(12,.box 85 [.int .i64 v0_5.1,.sl Y7 v0_5.2,.fn (.func 95) [] [.dp (.int .i64) thread 0],.fn (.func 95) [] [.dp (.int .i64) thread 0]])] ?_
  refine AW.cond (b:=false) rfl (fun hb7=>by cases hb7) (fun _=>?_)
  refine zk ?_
  refine zo ?_
  refine zS 3 [(24,.agg [.int .i64 v0_5.1,.sl Y7 v0_5.2,.fn (.func 95) [] [.dp (.int .i64) thread 0],.fn (.func 95) [] [.dp (.int .i64) thread 0]]),(25,.sl (.int .i64) path),(26,.sl (.int .i64) circle)] [] ?_
  obtain ⟨v0_8,hv8,h⟩:=Option.bind_eq_some_iff.1 h
  refine zC [] [] (hc_progress_statement_isLasso_3 v0_5.1 v0_5.2 thread thread path circle hv8) [(27,.bool v0_8)] [] ?_
  refine zB [(10,.bool v0_8),(11,.int .i64 0)] [] ?_
  refine AW.ret ?_
  obtain rfl:=Option.some.inj h
  exact zR [] [] []
theorem hc_progress_graph_paths_2 (g:Int×(List (Int×Int×Int×Bool))) (from0:Int) {r:Unit} (h:progress_graph_paths_2 g from0=some r):HC Try.prog 89 [] [.agg [.int .i64 g.1,.sl Y7 g.2],.int .i64 from0,.fn (.func 94) [] []] [(2000,.box 3 [.int .i64 from0]),(2001,.box 69 [.int .i64 g.1,.sl Y7 g.2]),(2002,.box 81 [.fn (.func 94) [] []])] (.fn (.func 108) [] [.bp 2000 0,.bp 2001 0,.bp 2002 0]):=by
 unfold progress_graph_paths_2 at h
 refine zH Try.func89 [.tmp 6] 8 ?_
 refine zo ?_
 refine zB [(3,.bp 3 0),(4,.bp 4 0),(5,.bp 5 0)] [(3,.box 69 [.int .i64 g.1,.sl Y7 g.2]),(4,.box 3 [.int .i64 from0]),(5,.box 81 [.fn (.func 94) [] []])] ?_
 refine zo ?_
 refine zB [(6,.fn (.func 108) [] [.bp 4 0,.bp 3 0,.bp 5 0])] [(3,.box 69 [.int .i64 g.1,.sl Y7 g.2]),(4,.box 3 [.int .i64 from0]),(5,.box 81 [.fn (.func 94) [] []])] ?_
 refine AW.ret ?_
 obtain rfl:=Option.some.inj h
 exact zR [] [] [(2000,4),(2001,3),(2002,5)]
end Go.Proofs.Yteclokkdgmacpaa
