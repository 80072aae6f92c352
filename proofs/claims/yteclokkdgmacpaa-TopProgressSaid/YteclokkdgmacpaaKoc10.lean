import Derived.Test.YteclokkdgmacpaaGrp
import Derived.Test.YteclokkdgmacpaaSh7
import Derived.Test.YteclokkdgmacpaaAvd
import Derived.Test.YteclokkdgmacpaaKoc4
import Derived.Test.YteclokkdgmacpaaKoc6
import Derived.Test.YteclokkdgmacpaaKoc9
import Derived.Test.YteclokkdgmacpaaYa7
namespace Go.Proofs.Yteclokkdgmacpaa
open Go.RowKit
set_option linter.unusedSimpArgs false
set_option linter.unusedVariables false
set_option linter.constructorNameAsVariable false
set_option maxRecDepth 100000
set_option maxHeartbeats 40000000
theorem hc_slices_IndexFunc_8 (s:List Int) (c0:Int) (c0_2:List (Int×Int×Int×Bool)) {r:Int} (h:slices_IndexFunc_8 s c0 c0_2=some r):HC Try.prog 93 [(1000,.box 85 [.ii c0,.sl Y7 c0_2,.fn (.func 94) [] [],.fn (.func 94) [] []])] [.sl (.int .i64) s,.fn (.func 103) [] [.bp 1000 0]] [(1000,.box 85 [.ii c0,.sl Y7 c0_2,.fn (.func 94) [] [],.fn (.func 94) [] []])] (.ii r):=by
 unfold slices_IndexFunc_8 at h
 refine zH Try.func93 [.tmp 4] 19 ?_
 refine zo ?_
 refine zB [(0,.sl (.int .i64) s),(1,.fn (.func 103) [] [.bp 1000 0])] [(1000,.box 85 [.ii c0,.sl Y7 c0_2,.fn (.func 94) [] [],.fn (.func 94) [] []])] ?_
 refine AW.have1 (fun _:Unit=>slices_IndexFunc_8_k1=some r) (fun _=>⟨fr [],hpGet [(1000,.box 85 [.ii c0,.sl Y7 c0_2,.fn (.func 94) [] [],.fn (.func 94) [] []])],gt⟩) (fun _ h=>?_) (fun hk_slices_IndexFunc_8_k1=>?_)
 ·as_aux_lemma =>
   unfold slices_IndexFunc_8_k1 at h
   refine zo ?_
   refine zB [(4,.ii (-1))] [(1000,.box 85 [.ii c0,.sl Y7 c0_2,.fn (.func 94) [] [],.fn (.func 94) [] []])] ?_
   refine AW.ret ?_
   obtain rfl:=zj h
   exact zR [] [] []
 refine AW.seq ?_
 refine zo ?_
 refine zB [(0,.sl (.int .i64) s),(1,.fn (.func 103) [] [.bp 1000 0]),(7,.ii (s.length:Int)),(8,.ii 0)] [(1000,.box 85 [.ii c0,.sl Y7 c0_2,.fn (.func 94) [] [],.fn (.func 94) [] []])] ?_
 refine AW.block ?_
 obtain ⟨rv5,hw1,ho2⟩:=zw h
 refine AW.loopO (slices_IndexFunc_8_b1 s c0 c0_2) (fun st1=>⟨fr [(0,.sl (.int .i64) s),(1,.fn (.func 103) [] [.bp 1000 0]),(7,.ii (s.length:Int)),(8,.ii st1)],hpGet [(1000,.box 85 [.ii c0,.sl Y7 c0_2,.fn (.func 94) [] [],.fn (.func 94) [] []])],gt⟩) 0 hw1 (zL [] [] []) ?_
 as_aux_lemma =>
  intro st1 x4 h hd3
  unfold slices_IndexFunc_8_b1 at h
  refine zo ?_
  refine zB [(0,.sl (.int .i64) s),(1,.fn (.func 103) [] [.bp 1000 0]),(7,.ii (s.length:Int)),(8,.ii st1),(9,.bool (decide (st1<(s.length:Int))))] [(1000,.box 85 [.ii c0,.sl Y7 c0_2,.fn (.func 94) [] [],.fn (.func 94) [] []])] ?_
  refine AW.seq ?_
  refine zQ h (fun hb6 h=>?_) (fun hb6 h=>?_)
  ·refine zk ?_
   refine AW.seq ?_
   refine AW.block ?_
   refine zo ?_
   refine zB [(0,.sl (.int .i64) s),(1,.fn (.func 103) [] [.bp 1000 0]),(5,.ii st1),(7,.ii (s.length:Int)),(8,.ii st1)] [(1000,.box 85 [.ii c0,.sl Y7 c0_2,.fn (.func 94) [] [],.fn (.func 94) [] []])] ?_
   refine zo ?_
   obtain ⟨c7,h⟩:=ck_some.1 h
   obtain ⟨c8,h⟩:=ck_some.1 h
   refine zS 5 [(0,.sl (.int .i64) s),(1,.fn (.func 103) [] [.bp 1000 0]),(5,.ii st1),(7,.ii (s.length:Int)),(8,.ii st1),(11,.fn (.func 103) [] [.bp 1000 0]),(15,.ii (s.getD st1.toNat 0))] [(1000,.box 85 [.ii c0,.sl Y7 c0_2,.fn (.func 94) [] [],.fn (.func 94) [] []])] ?_
   obtain ⟨v0,hv9,h⟩:=zw h
   refine zC [] [(1000,1000)] (hc_progress_statement_isLasso_1 (s.getD st1.toNat 0) c0 c0_2 hv9) [(0,.sl (.int .i64) s),(1,.fn (.func 103) [] [.bp 1000 0]),(5,.ii st1),(7,.ii (s.length:Int)),(8,.ii st1),(16,.bool (!(!(c0_2.getD (s.getD st1.toNat 0).toNat (0,0,0,false)).2.2.2)))] [(1000,.box 85 [.ii c0,.sl Y7 c0_2,.fn (.func 94) [] [],.fn (.func 94) [] []])] ?_
   refine zB [(0,.sl (.int .i64) s),(1,.fn (.func 103) [] [.bp 1000 0]),(5,.ii st1),(7,.ii (s.length:Int)),(8,.ii st1),(16,.bool (!(!(c0_2.getD (s.getD st1.toNat 0).toNat (0,0,0,false)).2.2.2)))] [(1000,.box 85 [.ii c0,.sl Y7 c0_2,.fn (.func 94) [] [],.fn (.func 94) [] []])] ?_
   refine zQ h (fun hb10 h=>?_) (fun hb10 h=>?_)
   ·refine zo ?_
    refine zB [(4,.ii st1)] [(1000,.box 85 [.ii c0,.sl Y7 c0_2,.fn (.func 94) [] [],.fn (.func 94) [] []])] ?_
    refine AW.ret ?_
    refine ablock_r ?_
    refine athen_r ?_
    obtain rfl:=zj h
    rw [← hd3 _ rfl] at ho2
    have h:=ho2
    try simp only at h
    refine athen_r ?_
    refine ablock_r ?_
    refine athen_r ?_
    obtain rfl:=zj h
    exact zR [] [] []
   refine zm ?_
   refine athen_n ?_
   refine AW.ops ?_
   obtain ⟨c11,h⟩:=ck_some.1 h
   refine zA [(0,.sl (.int .i64) s),(1,.fn (.func 103) [] [.bp 1000 0]),(7,.ii (s.length:Int)),(8,.ii (st1+1))] [(1000,.box 85 [.ii c0,.sl Y7 c0_2,.fn (.func 94) [] [],.fn (.func 94) [] []])] ?_
   obtain rfl:=zj h
   exact ⟨_,rfl,zL [] [] []⟩
  refine AW.exit ?_
  refine athen_e ?_
  obtain rfl:=zj h
  rw [← hd3 _ rfl] at ho2
  have h:=ho2
  try simp only at h
  refine athen_e ?_
  refine ablock_s ?_
  refine athen_n ?_
  exact AW.weaken (zL [] [] []) (hk_slices_IndexFunc_8_k1 () h)
theorem hc_slices_ContainsFunc_3 (s:List Int) (c0:Int) (c0_2:List (Int×Int×Int×Bool)) {r:Bool} (h:slices_ContainsFunc_3 s c0 c0_2=some r):HC Try.prog 99 [(1000,.box 85 [.ii c0,.sl Y7 c0_2,.fn (.func 94) [] [],.fn (.func 94) [] []])] [.sl (.int .i64) s,.fn (.func 103) [] [.bp 1000 0]] [(1000,.box 85 [.ii c0,.sl Y7 c0_2,.fn (.func 94) [] [],.fn (.func 94) [] []])] (.bool r):=by
 unfold slices_ContainsFunc_3 at h
 refine zH Try.func99 [.tmp 4] 9 ?_
 refine zo ?_
 refine zB [(0,.sl (.int .i64) s),(1,.fn (.func 103) [] [.bp 1000 0])] [(1000,.box 85 [.ii c0,.sl Y7 c0_2,.fn (.func 94) [] [],.fn (.func 94) [] []])] ?_
 refine zo ?_
 refine zS 2 [(5,.sl (.int .i64) s),(6,.fn (.func 103) [] [.bp 1000 0])] [(1000,.box 85 [.ii c0,.sl Y7 c0_2,.fn (.func 94) [] [],.fn (.func 94) [] []])] ?_
 obtain ⟨v0,hv1,h⟩:=zw h
 refine zC [] [(1000,1000)] (hc_slices_IndexFunc_8 s c0 c0_2 hv1) [(7,.ii v0)] [(1000,.box 85 [.ii c0,.sl Y7 c0_2,.fn (.func 94) [] [],.fn (.func 94) [] []])] ?_
 refine zB [(4,.bool (decide (0≤v0)))] [(1000,.box 85 [.ii c0,.sl Y7 c0_2,.fn (.func 94) [] [],.fn (.func 94) [] []])] ?_
 refine AW.ret ?_
 obtain rfl:=zj h
 exact zR [] [] []
theorem hc_progress_statement_isLasso_2 (move:Int) (a1:Int) (a1_2:List (Int×Int×Int×Bool)) {r:Unit} (h:progress_statement_isLasso_2 move a1 a1_2=some r):HC Try.prog 104 [(1000,.box 85 [.ii a1,.sl Y7 a1_2,.fn (.func 94) [] [],.fn (.func 94) [] []])] [.ii move,.bp 1000 0] [(1000,.box 85 [.ii a1,.sl Y7 a1_2,.fn (.func 94) [] [],.fn (.func 94) [] []])] (.bool (!(a1_2.getD move.toNat (0,0,0,false)).2.2.2)):=by
 unfold progress_statement_isLasso_2 at h
 refine zH Try.func104 [.tmp 3] 13 ?_
 refine zo ?_
 refine zB [(0,.ii move),(1,.bp 1000 0)] [(1000,.box 85 [.ii a1,.sl Y7 a1_2,.fn (.func 94) [] [],.fn (.func 94) [] []])] ?_
 refine AW.seq ?_
 refine AW.draw tab_ok mixed_ok [] [] (by decide) (lex_fast (by kernel_rfl)) ?_
 as_aux_lemma =>
  refine adops_cut 6 (fun K' hK1=>?_)
  try dsimp only [y1,y2,y3,y4]
  simp only [go_sem]
  repeat with_reducible refine zN ?_
  refine hK1 _ ?_
  as_aux_lemma =>
   obtain ⟨c3,h⟩:=ck_some.1 h
   obtain ⟨c4,h⟩:=ck_some.1 h
   refine adops_cut 2 (fun K' hK2=>?_)
   try dsimp only [y1,y2,y3,y4]
   simp only [go_sem]
   repeat with_reducible refine zN ?_
   refine hK2 _ ?_
   as_aux_lemma =>
    obtain ⟨v0,hv5,h⟩:=zw h
    refine adops.call (by first|trivial|rfl) rfl rfl rfl (fun _ h=>h) [] [] (hc_progress_statementOf_1 (a1_2.getD move.toNat (0,0,0,false)) hv5) rfl (by (simp only [go_sem])<;>(with_reducible and_intros)<;>first|assumption|rfl|omega|(unfold maxLen; omega)) (by (simp only [go_sem])<;>(with_reducible and_intros)<;>first|assumption|rfl|omega|(unfold maxLen; omega)) rfl ?_
    refine adops_cut 1 (fun K' hK6=>?_)
    try dsimp only [y1,y2,y3,y4]
    simp only [go_sem]
    repeat with_reducible refine zN ?_
    refine hK6 _ ?_
    refine adops_nil ?_
    refine athen_n ?_
    refine zV [(3,.bool (!(a1_2.getD move.toNat (0,0,0,false)).2.2.2))] [(1000,.box 85 [.ii a1,.sl Y7 a1_2,.fn (.func 94) [] [],.fn (.func 94) [] []])] gt ?_
    as_aux_lemma =>
     refine AW.ret ?_
     obtain rfl:=zj h
     exact zR [] [] []
theorem hc_slices_IndexFunc_9 (s:List Int) (c0:Int) (c0_2:List (Int×Int×Int×Bool)) {r:Int} (h:slices_IndexFunc_9 s c0 c0_2=some r):HC Try.prog 93 [(1000,.box 85 [.ii c0,.sl Y7 c0_2,.fn (.func 94) [] [],.fn (.func 94) [] []])] [.sl (.int .i64) s,.fn (.func 104) [] [.bp 1000 0]] [(1000,.box 85 [.ii c0,.sl Y7 c0_2,.fn (.func 94) [] [],.fn (.func 94) [] []])] (.ii r):=by
 unfold slices_IndexFunc_9 at h
 refine zH Try.func93 [.tmp 4] 19 ?_
 refine zo ?_
 refine zB [(0,.sl (.int .i64) s),(1,.fn (.func 104) [] [.bp 1000 0])] [(1000,.box 85 [.ii c0,.sl Y7 c0_2,.fn (.func 94) [] [],.fn (.func 94) [] []])] ?_
 refine AW.have1 (fun _:Unit=>slices_IndexFunc_9_k1=some r) (fun _=>⟨fr [],hpGet [(1000,.box 85 [.ii c0,.sl Y7 c0_2,.fn (.func 94) [] [],.fn (.func 94) [] []])],gt⟩) (fun _ h=>?_) (fun hk_slices_IndexFunc_9_k1=>?_)
 ·as_aux_lemma =>
   unfold slices_IndexFunc_9_k1 at h
   refine zo ?_
   refine zB [(4,.ii (-1))] [(1000,.box 85 [.ii c0,.sl Y7 c0_2,.fn (.func 94) [] [],.fn (.func 94) [] []])] ?_
   refine AW.ret ?_
   obtain rfl:=zj h
   exact zR [] [] []
 refine AW.seq ?_
 refine zo ?_
 refine zB [(0,.sl (.int .i64) s),(1,.fn (.func 104) [] [.bp 1000 0]),(7,.ii (s.length:Int)),(8,.ii 0)] [(1000,.box 85 [.ii c0,.sl Y7 c0_2,.fn (.func 94) [] [],.fn (.func 94) [] []])] ?_
 refine AW.block ?_
 obtain ⟨rv5,hw1,ho2⟩:=zw h
 refine AW.loopO (slices_IndexFunc_9_b1 s c0 c0_2) (fun st1=>⟨fr [(0,.sl (.int .i64) s),(1,.fn (.func 104) [] [.bp 1000 0]),(7,.ii (s.length:Int)),(8,.ii st1)],hpGet [(1000,.box 85 [.ii c0,.sl Y7 c0_2,.fn (.func 94) [] [],.fn (.func 94) [] []])],gt⟩) 0 hw1 (zL [] [] []) ?_
 as_aux_lemma =>
  intro st1 x4 h hd3
  unfold slices_IndexFunc_9_b1 at h
  refine zo ?_
  refine zB [(0,.sl (.int .i64) s),(1,.fn (.func 104) [] [.bp 1000 0]),(7,.ii (s.length:Int)),(8,.ii st1),(9,.bool (decide (st1<(s.length:Int))))] [(1000,.box 85 [.ii c0,.sl Y7 c0_2,.fn (.func 94) [] [],.fn (.func 94) [] []])] ?_
  refine AW.seq ?_
  refine zQ h (fun hb6 h=>?_) (fun hb6 h=>?_)
  ·refine zk ?_
   refine AW.seq ?_
   refine AW.block ?_
   refine zo ?_
   refine zB [(0,.sl (.int .i64) s),(1,.fn (.func 104) [] [.bp 1000 0]),(5,.ii st1),(7,.ii (s.length:Int)),(8,.ii st1)] [(1000,.box 85 [.ii c0,.sl Y7 c0_2,.fn (.func 94) [] [],.fn (.func 94) [] []])] ?_
   refine zo ?_
   obtain ⟨c7,h⟩:=ck_some.1 h
   obtain ⟨c8,h⟩:=ck_some.1 h
   refine zS 5 [(0,.sl (.int .i64) s),(1,.fn (.func 104) [] [.bp 1000 0]),(5,.ii st1),(7,.ii (s.length:Int)),(8,.ii st1),(11,.fn (.func 104) [] [.bp 1000 0]),(15,.ii (s.getD st1.toNat 0))] [(1000,.box 85 [.ii c0,.sl Y7 c0_2,.fn (.func 94) [] [],.fn (.func 94) [] []])] ?_
   obtain ⟨v0,hv9,h⟩:=zw h
   refine zC [] [(1000,1000)] (hc_progress_statement_isLasso_2 (s.getD st1.toNat 0) c0 c0_2 hv9) [(0,.sl (.int .i64) s),(1,.fn (.func 104) [] [.bp 1000 0]),(5,.ii st1),(7,.ii (s.length:Int)),(8,.ii st1),(16,.bool (!(c0_2.getD (s.getD st1.toNat 0).toNat (0,0,0,false)).2.2.2))] [(1000,.box 85 [.ii c0,.sl Y7 c0_2,.fn (.func 94) [] [],.fn (.func 94) [] []])] ?_
   refine zB [(0,.sl (.int .i64) s),(1,.fn (.func 104) [] [.bp 1000 0]),(5,.ii st1),(7,.ii (s.length:Int)),(8,.ii st1),(16,.bool (!(c0_2.getD (s.getD st1.toNat 0).toNat (0,0,0,false)).2.2.2))] [(1000,.box 85 [.ii c0,.sl Y7 c0_2,.fn (.func 94) [] [],.fn (.func 94) [] []])] ?_
   refine zQ h (fun hb10 h=>?_) (fun hb10 h=>?_)
   ·refine zo ?_
    refine zB [(4,.ii st1)] [(1000,.box 85 [.ii c0,.sl Y7 c0_2,.fn (.func 94) [] [],.fn (.func 94) [] []])] ?_
    refine AW.ret ?_
    refine ablock_r ?_
    refine athen_r ?_
    obtain rfl:=zj h
    rw [← hd3 _ rfl] at ho2
    have h:=ho2
    try simp only at h
    refine athen_r ?_
    refine ablock_r ?_
    refine athen_r ?_
    obtain rfl:=zj h
    exact zR [] [] []
   refine zm ?_
   refine athen_n ?_
   refine AW.ops ?_
   obtain ⟨c11,h⟩:=ck_some.1 h
   refine zA [(0,.sl (.int .i64) s),(1,.fn (.func 104) [] [.bp 1000 0]),(7,.ii (s.length:Int)),(8,.ii (st1+1))] [(1000,.box 85 [.ii c0,.sl Y7 c0_2,.fn (.func 94) [] [],.fn (.func 94) [] []])] ?_
   obtain rfl:=zj h
   exact ⟨_,rfl,zL [] [] []⟩
  refine AW.exit ?_
  refine athen_e ?_
  obtain rfl:=zj h
  rw [← hd3 _ rfl] at ho2
  have h:=ho2
  try simp only at h
  refine athen_e ?_
  refine ablock_s ?_
  refine athen_n ?_
  exact AW.weaken (zL [] [] []) (hk_slices_IndexFunc_9_k1 () h)
theorem hc_slices_ContainsFunc_4 (s:List Int) (c0:Int) (c0_2:List (Int×Int×Int×Bool)) {r:Bool} (h:slices_ContainsFunc_4 s c0 c0_2=some r):HC Try.prog 99 [(1000,.box 85 [.ii c0,.sl Y7 c0_2,.fn (.func 94) [] [],.fn (.func 94) [] []])] [.sl (.int .i64) s,.fn (.func 104) [] [.bp 1000 0]] [(1000,.box 85 [.ii c0,.sl Y7 c0_2,.fn (.func 94) [] [],.fn (.func 94) [] []])] (.bool r):=by
 unfold slices_ContainsFunc_4 at h
 refine zH Try.func99 [.tmp 4] 9 ?_
 refine zo ?_
 refine zB [(0,.sl (.int .i64) s),(1,.fn (.func 104) [] [.bp 1000 0])] [(1000,.box 85 [.ii c0,.sl Y7 c0_2,.fn (.func 94) [] [],.fn (.func 94) [] []])] ?_
 refine zo ?_
 refine zS 2 [(5,.sl (.int .i64) s),(6,.fn (.func 104) [] [.bp 1000 0])] [(1000,.box 85 [.ii c0,.sl Y7 c0_2,.fn (.func 94) [] [],.fn (.func 94) [] []])] ?_
 obtain ⟨v0,hv1,h⟩:=zw h
 refine zC [] [(1000,1000)] (hc_slices_IndexFunc_9 s c0 c0_2 hv1) [(7,.ii v0)] [(1000,.box 85 [.ii c0,.sl Y7 c0_2,.fn (.func 94) [] [],.fn (.func 94) [] []])] ?_
 refine zB [(4,.bool (decide (0≤v0)))] [(1000,.box 85 [.ii c0,.sl Y7 c0_2,.fn (.func 94) [] [],.fn (.func 94) [] []])] ?_
 refine AW.ret ?_
 obtain rfl:=zj h
 exact zR [] [] []
theorem hc_progress_statement_isLasso (s:Int) (s_2:List (Int×Int×Int×Bool)) (path:List Int) (circle:List Int) {r:Bool} (h:progress_statement_isLasso s s_2 path circle=some r):HC Try.prog 78 [] [.agg [.ii s,.sl Y7 s_2,.fn (.func 94) [] [],.fn (.func 94) [] []],.sl (.int .i64) path,.sl (.int .i64) circle] [] (.bool r):=by
 unfold progress_statement_isLasso at h
 refine zH Try.func78 [.tmp 6] 47 ?_
 refine zo ?_
 refine zB [(1,.sl (.int .i64) path),(2,.sl (.int .i64) circle),(3,.bp 3 0)] [(3,.box 85 [.ii s,.sl Y7 s_2,.fn (.func 94) [] [],.fn (.func 94) [] []])] ?_
 refine zo ?_
 refine zS 3 [(2,.sl (.int .i64) circle),(3,.bp 3 0),(14,.agg [.ii s,.sl Y7 s_2]),(15,.sl (.int .i64) path)] [(3,.box 85 [.ii s,.sl Y7 s_2,.fn (.func 94) [] [],.fn (.func 94) [] []])] ?_
 obtain ⟨v0,hv1,h⟩:=zw h
 refine zC [] [] (hc_progress_graph_leads (s,s_2) 0 path hv1) [(2,.sl (.int .i64) circle),(3,.bp 3 0),(16,.tup [.ii v0.1,.bool v0.2])] [(3,.box 85 [.ii s,.sl Y7 s_2,.fn (.func 94) [] [],.fn (.func 94) [] []])] ?_
 refine zB [(2,.sl (.int .i64) circle),(3,.bp 3 0),(7,.ii v0.1),(8,.bool v0.2)] [(3,.box 85 [.ii s,.sl Y7 s_2,.fn (.func 94) [] [],.fn (.func 94) [] []])] ?_
 refine AW.seq ?_
 refine zo ?_
 refine zB [(2,.sl (.int .i64) circle),(3,.bp 3 0),(7,.ii v0.1),(20,.bool (!v0.2))] [(3,.box 85 [.ii s,.sl Y7 s_2,.fn (.func 94) [] [],.fn (.func 94) [] []])] ?_
 refine zQ h (fun hb2 h=>?_) (fun hb2 h=>?_)
 ·refine zo ?_
  refine zB [(6,.bool false)] [] ?_
  refine zr ?_
  obtain rfl:=zj h
  exact zR [] [] []
 refine zk ?_
 refine zo ?_
 refine zS 4 [(2,.sl (.int .i64) circle),(3,.bp 3 0),(7,.ii v0.1),(23,.agg [.ii s,.sl Y7 s_2]),(24,.ii v0.1),(25,.sl (.int .i64) circle)] [(3,.box 85 [.ii s,.sl Y7 s_2,.fn (.func 94) [] [],.fn (.func 94) [] []])] ?_
 obtain ⟨v0_2,hv3,h⟩:=zw h
 refine zC [] [] (hc_progress_graph_leads (s,s_2) v0.1 circle hv3) [(2,.sl (.int .i64) circle),(3,.bp 3 0),(7,.ii v0.1),(26,.tup [.ii v0_2.1,.bool v0_2.2])] [(3,.box 85 [.ii s,.sl Y7 s_2,.fn (.func 94) [] [],.fn (.func 94) [] []])] ?_
 refine zB [(2,.sl (.int .i64) circle),(3,.bp 3 0),(7,.ii v0.1),(8,.bool v0_2.2),(9,.ii v0_2.1)] [(3,.box 85 [.ii s,.sl Y7 s_2,.fn (.func 94) [] [],.fn (.func 94) [] []])] ?_
 refine AW.seq ?_
 refine zo ?_
 refine zS 3 [(2,.sl (.int .i64) circle),(3,.bp 3 0),(7,.ii v0.1),(9,.ii v0_2.1),(31,.bool (!v0_2.2))] [(3,.box 85 [.ii s,.sl Y7 s_2,.fn (.func 94) [] [],.fn (.func 94) [] []])] ?_
 rcases zI h with ⟨hb4,h⟩|⟨hb4,h⟩
 ·refine zB [(2,.sl (.int .i64) circle),(3,.bp 3 0),(35,.bool true)] [(3,.box 85 [.ii s,.sl Y7 s_2,.fn (.func 94) [] [],.fn (.func 94) [] []])] ?_
  refine AW.cond (b:=true) rfl (fun _=>?_) (fun hb5=>by cases hb5)
  refine zo ?_
  refine zB [(6,.bool false)] [] ?_
  refine zr ?_
  obtain rfl:=zj h
  exact zR [] [] []
 refine zB [(2,.sl (.int .i64) circle),(3,.bp 3 0),(35,.bool (!(decide (v0_2.1=v0.1))))] [(3,.box 85 [.ii s,.sl Y7 s_2,.fn (.func 94) [] [],.fn (.func 94) [] []])] ?_
 refine zQ h (fun hb6 h=>?_) (fun hb6 h=>?_)
 ·refine zo ?_
  refine zB [(6,.bool false)] [] ?_
  refine zr ?_
  obtain rfl:=zj h
  exact zR [] [] []
 refine zk ?_
 refine zo ?_
 refine zB [(2,.sl (.int .i64) circle),(3,.bp 3 0),(10,.fn (.func 103) [] [.bp 3 0])] [(3,.box 85 [.ii s,.sl Y7 s_2,.fn (.func 94) [] [],.fn (.func 94) [] []])] ?_
 refine zo ?_
 refine zB [(2,.sl (.int .i64) circle),(10,.fn (.func 103) [] [.bp 3 0]),(11,.fn (.func 104) [] [.bp 3 0])] [(3,.box 85 [.ii s,.sl Y7 s_2,.fn (.func 94) [] [],.fn (.func 94) [] []])] ?_
 refine zo ?_
 refine zS 2 [(2,.sl (.int .i64) circle),(11,.fn (.func 104) [] [.bp 3 0]),(38,.sl (.int .i64) circle),(39,.fn (.func 103) [] [.bp 3 0])] [(3,.box 85 [.ii s,.sl Y7 s_2,.fn (.func 94) [] [],.fn (.func 94) [] []])] ?_
 obtain ⟨v0_3,hv7,h⟩:=zw h
 refine zC [] [(1000,3)] (hc_slices_ContainsFunc_3 circle s s_2 hv7) [(2,.sl (.int .i64) circle),(11,.fn (.func 104) [] [.bp 3 0]),(40,.bool v0_3)] [(3,.box 85 [.ii s,.sl Y7 s_2,.fn (.func 94) [] [],.fn (.func 94) [] []])] ?_
 refine zS 2 [(2,.sl (.int .i64) circle),(11,.fn (.func 104) [] [.bp 3 0]),(42,.bool (!v0_3))] [(3,.box 85 [.ii s,.sl Y7 s_2,.fn (.func 94) [] [],.fn (.func 94) [] []])] ?_
 rcases zI h with ⟨hb8,h⟩|⟨hb8,h⟩
 ·refine zS 2 [(42,.bool true),(43,.sl (.int .i64) circle),(44,.fn (.func 104) [] [.bp 3 0])] [(3,.box 85 [.ii s,.sl Y7 s_2,.fn (.func 94) [] [],.fn (.func 94) [] []])] ?_
  obtain ⟨v0_4,hv9,h⟩:=zw h
  refine zG [] [(1000,3)] (hc_slices_ContainsFunc_4 circle s s_2 hv9) [(42,.bool true),(45,.bool v0_4)] [] ?_
  refine zB [(6,.bool v0_4)] [] ?_
  refine AW.ret ?_
  obtain rfl:=zj h
  exact zR [] [] []
 refine zB [(6,.bool false)] [] ?_
 refine AW.ret ?_
 obtain rfl:=zj h
 exact zR [] [] []
theorem hc_progress_statement_isLasso_1_2 (move:Int) (a1:Int) (a1_2:List (Int×Int×Int×Bool)) (c0:Int) (c0_2:Int) {r:Bool} (h:progress_statement_isLasso_1_2 move a1 a1_2 c0 c0_2=some r):HC Try.prog 103 [(1000,.box 85 [.ii a1,.sl Y7 a1_2,.fn (.func 96) [] [.dp (.int .i64) c0 0],.fn (.func 95) [] [.dp (.int .i64) c0_2 0]])] [.ii move,.bp 1000 0] [(1000,.box 85 [.ii a1,.sl Y7 a1_2,.fn (.func 96) [] [.dp (.int .i64) c0 0],.fn (.func 95) [] [.dp (.int .i64) c0_2 0]])] (.bool r):=by
 unfold progress_statement_isLasso_1_2 at h
 refine zH Try.func103 [.tmp 3] 14 ?_
 refine zo ?_
 refine zB [(0,.ii move),(1,.bp 1000 0)] [(1000,.box 85 [.ii a1,.sl Y7 a1_2,.fn (.func 96) [] [.dp (.int .i64) c0 0],.fn (.func 95) [] [.dp (.int .i64) c0_2 0]])] ?_
 refine AW.seq ?_
 refine AW.draw tab_ok mixed_ok [] [] (by decide) (lex_fast (by kernel_rfl)) ?_
 as_aux_lemma =>
  refine adops_cut 6 (fun K' hK1=>?_)
  try dsimp only [y1,y2,y3,y4]
  simp only [go_sem]
  repeat with_reducible refine zN ?_
  refine hK1 _ ?_
  as_aux_lemma =>
   obtain ⟨c3,h⟩:=ck_some.1 h
   obtain ⟨c4,h⟩:=ck_some.1 h
   refine adops_cut 2 (fun K' hK2=>?_)
   try dsimp only [y1,y2,y3,y4]
   simp only [go_sem]
   repeat with_reducible refine zN ?_
   refine hK2 _ ?_
   as_aux_lemma =>
    obtain ⟨v0,hv5,h⟩:=zw h
    refine adops.call (by first|trivial|rfl) rfl rfl rfl (fun _ h=>h) [] [] (hc_progress_statementOf_3 (a1_2.getD move.toNat (0,0,0,false)) c0 hv5) rfl (by (simp only [go_sem])<;>(with_reducible and_intros)<;>first|assumption|rfl|omega|(unfold maxLen; omega)) (by (simp only [go_sem])<;>(with_reducible and_intros)<;>first|assumption|rfl|omega|(unfold maxLen; omega)) rfl ?_
    refine adops_cut 2 (fun K' hK6=>?_)
    try dsimp only [y1,y2,y3,y4]
    simp only [go_sem]
    repeat with_reducible refine zN ?_
    refine hK6 _ ?_
    refine adops_nil ?_
    refine athen_n ?_
    refine zV [(3,.bool (!v0))] [(1000,.box 85 [.ii a1,.sl Y7 a1_2,.fn (.func 96) [] [.dp (.int .i64) c0 0],.fn (.func 95) [] [.dp (.int .i64) c0_2 0]])] gt ?_
    as_aux_lemma =>
     refine AW.ret ?_
     obtain rfl:=zj h
     exact zR [] [] []
theorem hc_slices_IndexFunc_10 (s:List Int) (c0:Int) (c0_2:List (Int×Int×Int×Bool)) (c0_3:Int) (c0_4:Int) {r:Int} (h:slices_IndexFunc_10 s c0 c0_2 c0_3 c0_4=some r):HC Try.prog 93 [(1000,.box 85 [.ii c0,.sl Y7 c0_2,.fn (.func 96) [] [.dp (.int .i64) c0_3 0],.fn (.func 95) [] [.dp (.int .i64) c0_4 0]])] [.sl (.int .i64) s,.fn (.func 103) [] [.bp 1000 0]] [(1000,.box 85 [.ii c0,.sl Y7 c0_2,.fn (.func 96) [] [.dp (.int .i64) c0_3 0],.fn (.func 95) [] [.dp (.int .i64) c0_4 0]])] (.ii r):=by
 unfold slices_IndexFunc_10 at h
 refine zH Try.func93 [.tmp 4] 19 ?_
 refine zo ?_
 refine zB [(0,.sl (.int .i64) s),(1,.fn (.func 103) [] [.bp 1000 0])] [(1000,.box 85 [.ii c0,.sl Y7 c0_2,.fn (.func 96) [] [.dp (.int .i64) c0_3 0],.fn (.func 95) [] [.dp (.int .i64) c0_4 0]])] ?_
 refine AW.have1 (fun _:Unit=>slices_IndexFunc_10_k1=some r) (fun _=>⟨fr [],hpGet [(1000,.box 85 [.ii c0,.sl Y7 c0_2,.fn (.func 96) [] [.dp (.int .i64) c0_3 0],.fn (.func 95) [] [.dp (.int .i64) c0_4 0]])],gt⟩) (fun _ h=>?_) (fun hk_slices_IndexFunc_10_k1=>?_)
 ·as_aux_lemma =>
   unfold slices_IndexFunc_10_k1 at h
   refine zo ?_
   refine zB [(4,.ii (-1))] [(1000,.box 85 [.ii c0,.sl Y7 c0_2,.fn (.func 96) [] [.dp (.int .i64) c0_3 0],.fn (.func 95) [] [.dp (.int .i64) c0_4 0]])] ?_
   refine AW.ret ?_
   obtain rfl:=zj h
   exact zR [] [] []
 refine AW.seq ?_
 refine zo ?_
 refine zB [(0,.sl (.int .i64) s),(1,.fn (.func 103) [] [.bp 1000 0]),(7,.ii (s.length:Int)),(8,.ii 0)] [(1000,.box 85 [.ii c0,.sl Y7 c0_2,.fn (.func 96) [] [.dp (.int .i64) c0_3 0],.fn (.func 95) [] [.dp (.int .i64) c0_4 0]])] ?_
 refine AW.block ?_
 obtain ⟨rv5,hw1,ho2⟩:=zw h
 refine AW.loopO (slices_IndexFunc_10_b1 s c0 c0_2 c0_3 c0_4) (fun st1=>⟨fr [(0,.sl (.int .i64) s),(1,.fn (.func 103) [] [.bp 1000 0]),(7,.ii (s.length:Int)),(8,.ii st1)],hpGet [(1000,.box 85 [.ii c0,.sl Y7 c0_2,.fn (.func 96) [] [.dp (.int .i64) c0_3 0],.fn (.func 95) [] [.dp (.int .i64) c0_4 0]])],gt⟩) 0 hw1 (zL [] [] []) ?_
 as_aux_lemma =>
  intro st1 x4 h hd3
  unfold slices_IndexFunc_10_b1 at h
  refine zo ?_
  refine zB [(0,.sl (.int .i64) s),(1,.fn (.func 103) [] [.bp 1000 0]),(7,.ii (s.length:Int)),(8,.ii st1),(9,.bool (decide (st1<(s.length:Int))))] [(1000,.box 85 [.ii c0,.sl Y7 c0_2,.fn (.func 96) [] [.dp (.int .i64) c0_3 0],.fn (.func 95) [] [.dp (.int .i64) c0_4 0]])] ?_
  refine AW.seq ?_
  refine zQ h (fun hb6 h=>?_) (fun hb6 h=>?_)
  ·refine zk ?_
   refine AW.seq ?_
   refine AW.block ?_
   refine zo ?_
   refine zB [(0,.sl (.int .i64) s),(1,.fn (.func 103) [] [.bp 1000 0]),(5,.ii st1),(7,.ii (s.length:Int)),(8,.ii st1)] [(1000,.box 85 [.ii c0,.sl Y7 c0_2,.fn (.func 96) [] [.dp (.int .i64) c0_3 0],.fn (.func 95) [] [.dp (.int .i64) c0_4 0]])] ?_
   refine zo ?_
   obtain ⟨c7,h⟩:=ck_some.1 h
   obtain ⟨c8,h⟩:=ck_some.1 h
   refine zS 5 [(0,.sl (.int .i64) s),(1,.fn (.func 103) [] [.bp 1000 0]),(5,.ii st1),(7,.ii (s.length:Int)),(8,.ii st1),(11,.fn (.func 103) [] [.bp 1000 0]),(15,.ii (s.getD st1.toNat 0))] [(1000,.box 85 [.ii c0,.sl Y7 c0_2,.fn (.func 96) [] [.dp (.int .i64) c0_3 0],.fn (.func 95) [] [.dp (.int .i64) c0_4 0]])] ?_
   obtain ⟨v0,hv9,h⟩:=zw h
   refine zC [] [(1000,1000)] (hc_progress_statement_isLasso_1_2 (s.getD st1.toNat 0) c0 c0_2 c0_3 c0_4 hv9) [(0,.sl (.int .i64) s),(1,.fn (.func 103) [] [.bp 1000 0]),(5,.ii st1),(7,.ii (s.length:Int)),(8,.ii st1),(16,.bool v0)] [(1000,.box 85 [.ii c0,.sl Y7 c0_2,.fn (.func 96) [] [.dp (.int .i64) c0_3 0],.fn (.func 95) [] [.dp (.int .i64) c0_4 0]])] ?_
   refine zB [(0,.sl (.int .i64) s),(1,.fn (.func 103) [] [.bp 1000 0]),(5,.ii st1),(7,.ii (s.length:Int)),(8,.ii st1),(16,.bool v0)] [(1000,.box 85 [.ii c0,.sl Y7 c0_2,.fn (.func 96) [] [.dp (.int .i64) c0_3 0],.fn (.func 95) [] [.dp (.int .i64) c0_4 0]])] ?_
   refine zQ h (fun hb10 h=>?_) (fun hb10 h=>?_)
   ·refine zo ?_
    refine zB [(4,.ii st1)] [(1000,.box 85 [.ii c0,.sl Y7 c0_2,.fn (.func 96) [] [.dp (.int .i64) c0_3 0],.fn (.func 95) [] [.dp (.int .i64) c0_4 0]])] ?_
    refine AW.ret ?_
    refine ablock_r ?_
    refine athen_r ?_
    obtain rfl:=zj h
    rw [← hd3 _ rfl] at ho2
    have h:=ho2
    try simp only at h
    refine athen_r ?_
    refine ablock_r ?_
    refine athen_r ?_
    obtain rfl:=zj h
    exact zR [] [] []
   refine zm ?_
   refine athen_n ?_
   refine AW.ops ?_
   obtain ⟨c11,h⟩:=ck_some.1 h
   refine zA [(0,.sl (.int .i64) s),(1,.fn (.func 103) [] [.bp 1000 0]),(7,.ii (s.length:Int)),(8,.ii (st1+1))] [(1000,.box 85 [.ii c0,.sl Y7 c0_2,.fn (.func 96) [] [.dp (.int .i64) c0_3 0],.fn (.func 95) [] [.dp (.int .i64) c0_4 0]])] ?_
   obtain rfl:=zj h
   exact ⟨_,rfl,zL [] [] []⟩
  refine AW.exit ?_
  refine athen_e ?_
  obtain rfl:=zj h
  rw [← hd3 _ rfl] at ho2
  have h:=ho2
  try simp only at h
  refine athen_e ?_
  refine ablock_s ?_
  refine athen_n ?_
  exact AW.weaken (zL [] [] []) (hk_slices_IndexFunc_10_k1 () h)
theorem hc_slices_ContainsFunc_5 (s:List Int) (c0:Int) (c0_2:List (Int×Int×Int×Bool)) (c0_3:Int) (c0_4:Int) {r:Bool} (h:slices_ContainsFunc_5 s c0 c0_2 c0_3 c0_4=some r):HC Try.prog 99 [(1000,.box 85 [.ii c0,.sl Y7 c0_2,.fn (.func 96) [] [.dp (.int .i64) c0_3 0],.fn (.func 95) [] [.dp (.int .i64) c0_4 0]])] [.sl (.int .i64) s,.fn (.func 103) [] [.bp 1000 0]] [(1000,.box 85 [.ii c0,.sl Y7 c0_2,.fn (.func 96) [] [.dp (.int .i64) c0_3 0],.fn (.func 95) [] [.dp (.int .i64) c0_4 0]])] (.bool r):=by
 unfold slices_ContainsFunc_5 at h
 refine zH Try.func99 [.tmp 4] 9 ?_
 refine zo ?_
 refine zB [(0,.sl (.int .i64) s),(1,.fn (.func 103) [] [.bp 1000 0])] [(1000,.box 85 [.ii c0,.sl Y7 c0_2,.fn (.func 96) [] [.dp (.int .i64) c0_3 0],.fn (.func 95) [] [.dp (.int .i64) c0_4 0]])] ?_
 refine zo ?_
 refine zS 2 [(5,.sl (.int .i64) s),(6,.fn (.func 103) [] [.bp 1000 0])] [(1000,.box 85 [.ii c0,.sl Y7 c0_2,.fn (.func 96) [] [.dp (.int .i64) c0_3 0],.fn (.func 95) [] [.dp (.int .i64) c0_4 0]])] ?_
 obtain ⟨v0,hv1,h⟩:=zw h
 refine zC [] [(1000,1000)] (hc_slices_IndexFunc_10 s c0 c0_2 c0_3 c0_4 hv1) [(7,.ii v0)] [(1000,.box 85 [.ii c0,.sl Y7 c0_2,.fn (.func 96) [] [.dp (.int .i64) c0_3 0],.fn (.func 95) [] [.dp (.int .i64) c0_4 0]])] ?_
 refine zB [(4,.bool (decide (0≤v0)))] [(1000,.box 85 [.ii c0,.sl Y7 c0_2,.fn (.func 96) [] [.dp (.int .i64) c0_3 0],.fn (.func 95) [] [.dp (.int .i64) c0_4 0]])] ?_
 refine AW.ret ?_
 obtain rfl:=zj h
 exact zR [] [] []
theorem hc_progress_statement_isLasso_2_2 (move:Int) (a1:Int) (a1_2:List (Int×Int×Int×Bool)) (c0:Int) (c0_2:Int) {r:Bool} (h:progress_statement_isLasso_2_2 move a1 a1_2 c0 c0_2=some r):HC Try.prog 104 [(1000,.box 85 [.ii a1,.sl Y7 a1_2,.fn (.func 96) [] [.dp (.int .i64) c0 0],.fn (.func 95) [] [.dp (.int .i64) c0_2 0]])] [.ii move,.bp 1000 0] [(1000,.box 85 [.ii a1,.sl Y7 a1_2,.fn (.func 96) [] [.dp (.int .i64) c0 0],.fn (.func 95) [] [.dp (.int .i64) c0_2 0]])] (.bool r):=by
 unfold progress_statement_isLasso_2_2 at h
 refine zH Try.func104 [.tmp 3] 13 ?_
 refine zo ?_
 refine zB [(0,.ii move),(1,.bp 1000 0)] [(1000,.box 85 [.ii a1,.sl Y7 a1_2,.fn (.func 96) [] [.dp (.int .i64) c0 0],.fn (.func 95) [] [.dp (.int .i64) c0_2 0]])] ?_
 refine AW.seq ?_
 refine AW.draw tab_ok mixed_ok [] [] (by decide) (lex_fast (by kernel_rfl)) ?_
 as_aux_lemma =>
  refine adops_cut 6 (fun K' hK1=>?_)
  try dsimp only [y1,y2,y3,y4]
  simp only [go_sem]
  repeat with_reducible refine zN ?_
  refine hK1 _ ?_
  as_aux_lemma =>
   obtain ⟨c3,h⟩:=ck_some.1 h
   obtain ⟨c4,h⟩:=ck_some.1 h
   refine adops_cut 2 (fun K' hK2=>?_)
   try dsimp only [y1,y2,y3,y4]
   simp only [go_sem]
   repeat with_reducible refine zN ?_
   refine hK2 _ ?_
   as_aux_lemma =>
    obtain ⟨v0,hv5,h⟩:=zw h
    refine adops.call (by first|trivial|rfl) rfl rfl rfl (fun _ h=>h) [] [] (hc_progress_statementOf_2 (a1_2.getD move.toNat (0,0,0,false)) c0_2 hv5) rfl (by (simp only [go_sem])<;>(with_reducible and_intros)<;>first|assumption|rfl|omega|(unfold maxLen; omega)) (by (simp only [go_sem])<;>(with_reducible and_intros)<;>first|assumption|rfl|omega|(unfold maxLen; omega)) rfl ?_
    refine adops_cut 1 (fun K' hK6=>?_)
    try dsimp only [y1,y2,y3,y4]
    simp only [go_sem]
    repeat with_reducible refine zN ?_
    refine hK6 _ ?_
    refine adops_nil ?_
    refine athen_n ?_
    refine zV [(3,.bool v0)] [(1000,.box 85 [.ii a1,.sl Y7 a1_2,.fn (.func 96) [] [.dp (.int .i64) c0 0],.fn (.func 95) [] [.dp (.int .i64) c0_2 0]])] gt ?_
    as_aux_lemma =>
     refine AW.ret ?_
     obtain rfl:=zj h
     exact zR [] [] []
theorem hc_slices_IndexFunc_11 (s:List Int) (c0:Int) (c0_2:List (Int×Int×Int×Bool)) (c0_3:Int) (c0_4:Int) {r:Int} (h:slices_IndexFunc_11 s c0 c0_2 c0_3 c0_4=some r):HC Try.prog 93 [(1000,.box 85 [.ii c0,.sl Y7 c0_2,.fn (.func 96) [] [.dp (.int .i64) c0_3 0],.fn (.func 95) [] [.dp (.int .i64) c0_4 0]])] [.sl (.int .i64) s,.fn (.func 104) [] [.bp 1000 0]] [(1000,.box 85 [.ii c0,.sl Y7 c0_2,.fn (.func 96) [] [.dp (.int .i64) c0_3 0],.fn (.func 95) [] [.dp (.int .i64) c0_4 0]])] (.ii r):=by
 unfold slices_IndexFunc_11 at h
 refine zH Try.func93 [.tmp 4] 19 ?_
 refine zo ?_
 refine zB [(0,.sl (.int .i64) s),(1,.fn (.func 104) [] [.bp 1000 0])] [(1000,.box 85 [.ii c0,.sl Y7 c0_2,.fn (.func 96) [] [.dp (.int .i64) c0_3 0],.fn (.func 95) [] [.dp (.int .i64) c0_4 0]])] ?_
 refine AW.have1 (fun _:Unit=>slices_IndexFunc_11_k1=some r) (fun _=>⟨fr [],hpGet [(1000,.box 85 [.ii c0,.sl Y7 c0_2,.fn (.func 96) [] [.dp (.int .i64) c0_3 0],.fn (.func 95) [] [.dp (.int .i64) c0_4 0]])],gt⟩) (fun _ h=>?_) (fun hk_slices_IndexFunc_11_k1=>?_)
 ·as_aux_lemma =>
   unfold slices_IndexFunc_11_k1 at h
   refine zo ?_
   refine zB [(4,.ii (-1))] [(1000,.box 85 [.ii c0,.sl Y7 c0_2,.fn (.func 96) [] [.dp (.int .i64) c0_3 0],.fn (.func 95) [] [.dp (.int .i64) c0_4 0]])] ?_
   refine AW.ret ?_
   obtain rfl:=zj h
   exact zR [] [] []
 refine AW.seq ?_
 refine zo ?_
 refine zB [(0,.sl (.int .i64) s),(1,.fn (.func 104) [] [.bp 1000 0]),(7,.ii (s.length:Int)),(8,.ii 0)] [(1000,.box 85 [.ii c0,.sl Y7 c0_2,.fn (.func 96) [] [.dp (.int .i64) c0_3 0],.fn (.func 95) [] [.dp (.int .i64) c0_4 0]])] ?_
 refine AW.block ?_
 obtain ⟨rv5,hw1,ho2⟩:=zw h
 refine AW.loopO (slices_IndexFunc_11_b1 s c0 c0_2 c0_3 c0_4) (fun st1=>⟨fr [(0,.sl (.int .i64) s),(1,.fn (.func 104) [] [.bp 1000 0]),(7,.ii (s.length:Int)),(8,.ii st1)],hpGet [(1000,.box 85 [.ii c0,.sl Y7 c0_2,.fn (.func 96) [] [.dp (.int .i64) c0_3 0],.fn (.func 95) [] [.dp (.int .i64) c0_4 0]])],gt⟩) 0 hw1 (zL [] [] []) ?_
 as_aux_lemma =>
  intro st1 x4 h hd3
  unfold slices_IndexFunc_11_b1 at h
  refine zo ?_
  refine zB [(0,.sl (.int .i64) s),(1,.fn (.func 104) [] [.bp 1000 0]),(7,.ii (s.length:Int)),(8,.ii st1),(9,.bool (decide (st1<(s.length:Int))))] [(1000,.box 85 [.ii c0,.sl Y7 c0_2,.fn (.func 96) [] [.dp (.int .i64) c0_3 0],.fn (.func 95) [] [.dp (.int .i64) c0_4 0]])] ?_
  refine AW.seq ?_
  refine zQ h (fun hb6 h=>?_) (fun hb6 h=>?_)
  ·refine zk ?_
   refine AW.seq ?_
   refine AW.block ?_
   refine zo ?_
   refine zB [(0,.sl (.int .i64) s),(1,.fn (.func 104) [] [.bp 1000 0]),(5,.ii st1),(7,.ii (s.length:Int)),(8,.ii st1)] [(1000,.box 85 [.ii c0,.sl Y7 c0_2,.fn (.func 96) [] [.dp (.int .i64) c0_3 0],.fn (.func 95) [] [.dp (.int .i64) c0_4 0]])] ?_
   refine zo ?_
   obtain ⟨c7,h⟩:=ck_some.1 h
   obtain ⟨c8,h⟩:=ck_some.1 h
   refine zS 5 [(0,.sl (.int .i64) s),(1,.fn (.func 104) [] [.bp 1000 0]),(5,.ii st1),(7,.ii (s.length:Int)),(8,.ii st1),(11,.fn (.func 104) [] [.bp 1000 0]),(15,.ii (s.getD st1.toNat 0))] [(1000,.box 85 [.ii c0,.sl Y7 c0_2,.fn (.func 96) [] [.dp (.int .i64) c0_3 0],.fn (.func 95) [] [.dp (.int .i64) c0_4 0]])] ?_
   obtain ⟨v0,hv9,h⟩:=zw h
   refine zC [] [(1000,1000)] (hc_progress_statement_isLasso_2_2 (s.getD st1.toNat 0) c0 c0_2 c0_3 c0_4 hv9) [(0,.sl (.int .i64) s),(1,.fn (.func 104) [] [.bp 1000 0]),(5,.ii st1),(7,.ii (s.length:Int)),(8,.ii st1),(16,.bool v0)] [(1000,.box 85 [.ii c0,.sl Y7 c0_2,.fn (.func 96) [] [.dp (.int .i64) c0_3 0],.fn (.func 95) [] [.dp (.int .i64) c0_4 0]])] ?_
   refine zB [(0,.sl (.int .i64) s),(1,.fn (.func 104) [] [.bp 1000 0]),(5,.ii st1),(7,.ii (s.length:Int)),(8,.ii st1),(16,.bool v0)] [(1000,.box 85 [.ii c0,.sl Y7 c0_2,.fn (.func 96) [] [.dp (.int .i64) c0_3 0],.fn (.func 95) [] [.dp (.int .i64) c0_4 0]])] ?_
   refine zQ h (fun hb10 h=>?_) (fun hb10 h=>?_)
   ·refine zo ?_
    refine zB [(4,.ii st1)] [(1000,.box 85 [.ii c0,.sl Y7 c0_2,.fn (.func 96) [] [.dp (.int .i64) c0_3 0],.fn (.func 95) [] [.dp (.int .i64) c0_4 0]])] ?_
    refine AW.ret ?_
    refine ablock_r ?_
    refine athen_r ?_
    obtain rfl:=zj h
    rw [← hd3 _ rfl] at ho2
    have h:=ho2
    try simp only at h
    refine athen_r ?_
    refine ablock_r ?_
    refine athen_r ?_
    obtain rfl:=zj h
    exact zR [] [] []
   refine zm ?_
   refine athen_n ?_
   refine AW.ops ?_
   obtain ⟨c11,h⟩:=ck_some.1 h
   refine zA [(0,.sl (.int .i64) s),(1,.fn (.func 104) [] [.bp 1000 0]),(7,.ii (s.length:Int)),(8,.ii (st1+1))] [(1000,.box 85 [.ii c0,.sl Y7 c0_2,.fn (.func 96) [] [.dp (.int .i64) c0_3 0],.fn (.func 95) [] [.dp (.int .i64) c0_4 0]])] ?_
   obtain rfl:=zj h
   exact ⟨_,rfl,zL [] [] []⟩
  refine AW.exit ?_
  refine athen_e ?_
  obtain rfl:=zj h
  rw [← hd3 _ rfl] at ho2
  have h:=ho2
  try simp only at h
  refine athen_e ?_
  refine ablock_s ?_
  refine athen_n ?_
  exact AW.weaken (zL [] [] []) (hk_slices_IndexFunc_11_k1 () h)
end Go.Proofs.Yteclokkdgmacpaa
