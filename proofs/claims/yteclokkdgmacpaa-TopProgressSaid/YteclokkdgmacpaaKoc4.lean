import Derived.Test.YteclokkdgmacpaaGrp
import Derived.Test.YteclokkdgmacpaaSh7
import Derived.Test.YteclokkdgmacpaaAvd
import Derived.Test.YteclokkdgmacpaaKoc2
import Derived.Test.YteclokkdgmacpaaKoc3
import Derived.Test.YteclokkdgmacpaaYa7
namespace Go.Proofs.Yteclokkdgmacpaa
open Go.RowKit
set_option linter.unusedSimpArgs false
set_option linter.unusedVariables false
set_option linter.constructorNameAsVariable false
set_option maxRecDepth 100000
set_option maxHeartbeats 40000000
theorem hc_progress_statementOf_1 (m:Int×Int×Int×Bool) {r:Unit} (h:progress_statementOf_1 m=some r):HC Try.prog 94 [] [.agg [.ii m.1,.ii m.2.1,.ii m.2.2.1,.bool m.2.2.2]] [] (.bool (!m.2.2.2)):=by
 unfold progress_statementOf_1 at h
 refine zH Try.func94 [.tmp 2] 6 ?_
 refine zo ?_
 refine zB [(1,.bp 1 0)] [(1,.box 61 [.ii m.1,.ii m.2.1,.ii m.2.2.1,.bool m.2.2.2])] ?_
 refine zo ?_
 refine zB [(2,.bool (!m.2.2.2))] [] ?_
 refine AW.ret ?_
 obtain rfl:=zj h
 exact zR [] [] []
theorem hc_progress_statement_least (s:Int) (s_2:List (Int×Int×Int×Bool)) (m:Int×Int×Int×Bool) (ranks:List Int) {r:Int} (h:progress_statement_least s s_2 m ranks=some r):HC Try.prog 97 [] [.agg [.ii s,.sl Y7 s_2,.fn (.func 94) [] [],.fn (.func 94) [] []],.agg [.ii m.1,.ii m.2.1,.ii m.2.2.1,.bool m.2.2.2],.sl (.int .i64) ranks] [] (.ii r):=by
 unfold progress_statement_least at h
 refine zH Try.func97 [.tmp 6] 28 ?_
 refine zo ?_
 refine zB [(2,.sl (.int .i64) ranks),(3,.bp 3 0),(4,.bp 4 0)] [(3,.box 85 [.ii s,.sl Y7 s_2,.fn (.func 94) [] [],.fn (.func 94) [] []]),(4,.box 61 [.ii m.1,.ii m.2.1,.ii m.2.2.1,.bool m.2.2.2])] ?_
 refine AW.block ?_
 refine zo ?_
 refine zS 3 [(2,.sl (.int .i64) ranks),(3,.bp 3 0),(4,.bp 4 0),(9,.fn (.func 94) [] []),(10,.agg [.ii m.1,.ii m.2.1,.ii m.2.2.1,.bool m.2.2.2])] [(3,.box 85 [.ii s,.sl Y7 s_2,.fn (.func 94) [] [],.fn (.func 94) [] []]),(4,.box 61 [.ii m.1,.ii m.2.1,.ii m.2.2.1,.bool m.2.2.2])] ?_
 obtain ⟨v0,hv1,h⟩:=zw h
 refine zC [] [] (hc_progress_statementOf_1 m hv1) [(2,.sl (.int .i64) ranks),(3,.bp 3 0),(4,.bp 4 0),(11,.bool (!m.2.2.2))] [(3,.box 85 [.ii s,.sl Y7 s_2,.fn (.func 94) [] [],.fn (.func 94) [] []]),(4,.box 61 [.ii m.1,.ii m.2.1,.ii m.2.2.1,.bool m.2.2.2])] ?_
 refine zB [(2,.sl (.int .i64) ranks),(3,.bp 3 0),(4,.bp 4 0),(7,.bool (!m.2.2.2))] [(3,.box 85 [.ii s,.sl Y7 s_2,.fn (.func 94) [] [],.fn (.func 94) [] []]),(4,.box 61 [.ii m.1,.ii m.2.1,.ii m.2.2.1,.bool m.2.2.2])] ?_
 refine zQ h (fun hb2 h=>?_) (fun hb2 h=>?_)
 ·refine zo ?_
  obtain ⟨c3,h⟩:=ck_some.1 h
  obtain ⟨c4,h⟩:=ck_some.1 h
  refine zS 5 [(16,.ii (ranks.getD m.2.2.1.toNat 0))] [] ?_
  obtain ⟨c5,h⟩:=ck_some.1 h
  refine zB [(6,.ii ((ranks.getD m.2.2.1.toNat 0)+1))] [] ?_
  refine AW.ret ?_
  refine ablock_r ?_
  obtain rfl:=zj h
  exact zR [] [] []
 refine zo ?_
 refine zS 3 [(2,.sl (.int .i64) ranks),(4,.bp 4 0),(20,.fn (.func 94) [] []),(21,.agg [.ii m.1,.ii m.2.1,.ii m.2.2.1,.bool m.2.2.2])] [(4,.box 61 [.ii m.1,.ii m.2.1,.ii m.2.2.1,.bool m.2.2.2])] ?_
 obtain ⟨v0_2,hv6,h⟩:=zw h
 refine zC [] [] (hc_progress_statementOf_1 m hv6) [(2,.sl (.int .i64) ranks),(4,.bp 4 0),(22,.bool (!m.2.2.2))] [(4,.box 61 [.ii m.1,.ii m.2.1,.ii m.2.2.1,.bool m.2.2.2])] ?_
 refine zB [(2,.sl (.int .i64) ranks),(4,.bp 4 0),(18,.bool (!m.2.2.2))] [(4,.box 61 [.ii m.1,.ii m.2.1,.ii m.2.2.1,.bool m.2.2.2])] ?_
 refine zQ h (fun hb7 h=>?_) (fun hb7 h=>?_)
 ·refine zo ?_
  obtain ⟨c8,h⟩:=ck_some.1 h
  obtain ⟨c9,h⟩:=ck_some.1 h
  refine zS 5 [(27,.ii (ranks.getD m.2.2.1.toNat 0))] [] ?_
  refine zB [(6,.ii (ranks.getD m.2.2.1.toNat 0))] [] ?_
  refine AW.ret ?_
  refine ablock_r ?_
  obtain rfl:=zj h
  exact zR [] [] []
 refine zo ?_
 refine zB [(6,.ii 0)] [] ?_
 refine AW.ret ?_
 refine ablock_r ?_
 obtain rfl:=zj h
 exact zR [] [] []
theorem hc_progress_statement_broken_1 (m:Int×Int×Int×Bool) (a2:List Int) (a3:Int) (a3_2:List (Int×Int×Int×Bool)) (a1:List Int) {r:Bool} (h:progress_statement_broken_1 m a2 a3 a3_2 a1=some r):HC Try.prog 101 [(1000,.box 25 [.own 1003]),(1001,.box 25 [.sl (.int .i64) a2]),(1002,.box 85 [.ii a3,.sl Y7 a3_2,.fn (.func 94) [] [],.fn (.func 94) [] []]),(1003,.arr 3 (.int .i64) a1)] [.agg [.ii m.1,.ii m.2.1,.ii m.2.2.1,.bool m.2.2.2],.bp 1000 0,.bp 1001 0,.bp 1002 0] [(1000,.box 25 [.own 1003]),(1001,.box 25 [.sl (.int .i64) a2]),(1002,.box 85 [.ii a3,.sl Y7 a3_2,.fn (.func 94) [] [],.fn (.func 94) [] []]),(1003,.arr 3 (.int .i64) a1)] (.bool r):=by
 unfold progress_statement_broken_1 at h
 refine zH Try.func101 [.tmp 5] 22 ?_
 refine zo ?_
 refine zB [(1,.bp 1000 0),(2,.bp 1001 0),(3,.bp 1002 0),(4,.bp 4 0)] [(4,.box 61 [.ii m.1,.ii m.2.1,.ii m.2.2.1,.bool m.2.2.2]),(1000,.box 25 [.own 1003]),(1001,.box 25 [.sl (.int .i64) a2]),(1002,.box 85 [.ii a3,.sl Y7 a3_2,.fn (.func 94) [] [],.fn (.func 94) [] []]),(1003,.arr 3 (.int .i64) a1)] ?_
 refine AW.seq ?_
 refine AW.draw tab_ok mixed_ok [] [] (by decide) (lex_fast (by kernel_rfl)) ?_
 as_aux_lemma =>
  refine adops_cut 3 (fun K' hK1=>?_)
  try dsimp only [y1,y2,y3,y4]
  simp only [go_sem]
  repeat with_reducible refine zN ?_
  refine hK1 _ ?_
  as_aux_lemma =>
   obtain ⟨v0,hv2,h⟩:=zw h
   refine adops.call (by first|trivial|rfl) rfl rfl rfl (fun _ h=>h) [1003] [] (hc_slices_Contains_2 a1 m.1 hv2) rfl (by (simp only [go_sem])<;>(with_reducible and_intros)<;>first|assumption|rfl|omega|(unfold maxLen; omega)) (by (simp only [go_sem])<;>(with_reducible and_intros)<;>first|assumption|rfl|omega|(unfold maxLen; omega)) rfl ?_
   refine adops_cut 1 (fun K' hK3=>?_)
   try dsimp only [y1,y2,y3,y4]
   simp only [go_sem]
   repeat with_reducible refine zN ?_
   refine hK3 _ ?_
   as_aux_lemma =>
    rcases zI h with ⟨hb4,h⟩|⟨hb4,h⟩
    ·simp only [hb4]
     as_aux_lemma =>
      obtain ⟨c6,h⟩:=ck_some.1 h
      obtain ⟨c7,h⟩:=ck_some.1 h
      refine adops_cut 6 (fun K' hK5=>?_)
      try dsimp only [y1,y2,y3,y4]
      simp only [go_sem,hb4]
      repeat with_reducible refine zN ?_
      refine hK5 _ ?_
      as_aux_lemma =>
       refine adops_cut 2 (fun K' hK8=>?_)
       try dsimp only [y1,y2,y3,y4]
       simp only [go_sem,hb4]
       repeat with_reducible refine zN ?_
       refine hK8 _ ?_
       as_aux_lemma =>
        obtain ⟨v0_2,hv9,h⟩:=zw h
        refine adops.call (by first|trivial|rfl) rfl rfl rfl (fun _ h=>⟨fun _=>h,fun hn=>absurd rfl hn⟩) [] [] (hc_progress_statement_least a3 a3_2 m a2 hv9) rfl (by (simp only [go_sem,hb4])<;>(with_reducible and_intros)<;>first|assumption|rfl|omega|(unfold maxLen; omega)) (by (simp only [go_sem,hb4])<;>(with_reducible and_intros)<;>first|assumption|rfl|omega|(unfold maxLen; omega)) rfl ?_
        refine adops_cut 3 (fun K' hK10=>?_)
        try dsimp only [y1,y2,y3,y4]
        simp only [go_sem,hb4]
        repeat with_reducible refine zN ?_
        refine hK10 _ ?_
        refine adops_nil ?_
        refine athen_n ?_
        refine zV [(5,.bool (decide ((a2.getD m.1.toNat 0)<v0_2)))] [(1000,.box 25 [.own 1003]),(1001,.box 25 [.sl (.int .i64) a2]),(1002,.box 85 [.ii a3,.sl Y7 a3_2,.fn (.func 94) [] [],.fn (.func 94) [] []]),(1003,.arr 3 (.int .i64) a1)] gt ?_
        as_aux_lemma =>
         refine AW.ret ?_
         obtain rfl:=zj h
         exact zR [] [] []
    simp only [hb4]
    as_aux_lemma =>
     refine adops_cut 4 (fun K' hK11=>?_)
     try dsimp only [y1,y2,y3,y4]
     simp only [go_sem,hb4]
     repeat with_reducible refine zN ?_
     refine hK11 _ ?_
     as_aux_lemma =>
      refine adops_cut 4 (fun K' hK12=>?_)
      try dsimp only [y1,y2,y3,y4]
      simp only [go_sem,hb4]
      repeat with_reducible refine zN ?_
      refine hK12 _ ?_
      as_aux_lemma =>
       refine adops_cut 4 (fun K' hK13=>?_)
       try dsimp only [y1,y2,y3,y4]
       simp only [go_sem,hb4]
       repeat with_reducible refine zN ?_
       refine hK13 _ ?_
       refine adops_nil ?_
       refine athen_n ?_
       refine zV [(5,.bool false)] [(1000,.box 25 [.own 1003]),(1001,.box 25 [.sl (.int .i64) a2]),(1002,.box 85 [.ii a3,.sl Y7 a3_2,.fn (.func 94) [] [],.fn (.func 94) [] []]),(1003,.arr 3 (.int .i64) a1)] gt ?_
       as_aux_lemma =>
        refine AW.ret ?_
        obtain rfl:=zj h
        exact zR [] [] []
theorem hc_slices_IndexFunc (s:List (Int×Int×Int×Bool)) (c1:List Int) (c2:Int) (c2_2:List (Int×Int×Int×Bool)) (c0:List Int) {r:Int} (h:slices_IndexFunc s c1 c2 c2_2 c0=some r):HC Try.prog 100 [(1000,.box 25 [.own 1003]),(1001,.box 25 [.sl (.int .i64) c1]),(1002,.box 85 [.ii c2,.sl Y7 c2_2,.fn (.func 94) [] [],.fn (.func 94) [] []]),(1003,.arr 3 (.int .i64) c0)] [.sl Y7 s,.fn (.func 101) [] [.bp 1000 0,.bp 1001 0,.bp 1002 0]] [(1000,.box 25 [.own 1003]),(1001,.box 25 [.sl (.int .i64) c1]),(1002,.box 85 [.ii c2,.sl Y7 c2_2,.fn (.func 94) [] [],.fn (.func 94) [] []]),(1003,.arr 3 (.int .i64) c0)] (.ii r):=by
 unfold slices_IndexFunc at h
 refine zH Try.func100 [.tmp 4] 19 ?_
 refine zo ?_
 refine zB [(0,.sl Y7 s),(1,.fn (.func 101) [] [.bp 1000 0,.bp 1001 0,.bp 1002 0])] [(1000,.box 25 [.own 1003]),(1001,.box 25 [.sl (.int .i64) c1]),(1002,.box 85 [.ii c2,.sl Y7 c2_2,.fn (.func 94) [] [],.fn (.func 94) [] []]),(1003,.arr 3 (.int .i64) c0)] ?_
 refine AW.have1 (fun _:Unit=>slices_IndexFunc_k1=some r) (fun _=>⟨fr [],hpGet [(1000,.box 25 [.own 1003]),(1001,.box 25 [.sl (.int .i64) c1]),(1002,.box 85 [.ii c2,.sl Y7 c2_2,.fn (.func 94) [] [],.fn (.func 94) [] []]),(1003,.arr 3 (.int .i64) c0)],gt⟩) (fun _ h=>?_) (fun hk_slices_IndexFunc_k1=>?_)
 ·as_aux_lemma =>
   unfold slices_IndexFunc_k1 at h
   refine zo ?_
   refine zB [(4,.ii (-1))] [(1000,.box 25 [.own 1003]),(1001,.box 25 [.sl (.int .i64) c1]),(1002,.box 85 [.ii c2,.sl Y7 c2_2,.fn (.func 94) [] [],.fn (.func 94) [] []]),(1003,.arr 3 (.int .i64) c0)] ?_
   refine AW.ret ?_
   obtain rfl:=zj h
   exact zR [] [] []
 refine AW.seq ?_
 refine zo ?_
 refine zB [(0,.sl Y7 s),(1,.fn (.func 101) [] [.bp 1000 0,.bp 1001 0,.bp 1002 0]),(7,.ii (s.length:Int)),(8,.ii 0)] [(1000,.box 25 [.own 1003]),(1001,.box 25 [.sl (.int .i64) c1]),(1002,.box 85 [.ii c2,.sl Y7 c2_2,.fn (.func 94) [] [],.fn (.func 94) [] []]),(1003,.arr 3 (.int .i64) c0)] ?_
 refine AW.block ?_
 obtain ⟨rv5,hw1,ho2⟩:=zw h
 refine AW.loopO (slices_IndexFunc_b1 s c1 c2 c2_2 c0) (fun st1=>⟨fr [(0,.sl Y7 s),(1,.fn (.func 101) [] [.bp 1000 0,.bp 1001 0,.bp 1002 0]),(7,.ii (s.length:Int)),(8,.ii st1)],hpGet [(1000,.box 25 [.own 1003]),(1001,.box 25 [.sl (.int .i64) c1]),(1002,.box 85 [.ii c2,.sl Y7 c2_2,.fn (.func 94) [] [],.fn (.func 94) [] []]),(1003,.arr 3 (.int .i64) c0)],gt⟩) 0 hw1 (zL [] [] []) ?_
 as_aux_lemma =>
  intro st1 x4 h hd3
  unfold slices_IndexFunc_b1 at h
  refine zo ?_
  refine zB [(0,.sl Y7 s),(1,.fn (.func 101) [] [.bp 1000 0,.bp 1001 0,.bp 1002 0]),(7,.ii (s.length:Int)),(8,.ii st1),(9,.bool (decide (st1<(s.length:Int))))] [(1000,.box 25 [.own 1003]),(1001,.box 25 [.sl (.int .i64) c1]),(1002,.box 85 [.ii c2,.sl Y7 c2_2,.fn (.func 94) [] [],.fn (.func 94) [] []]),(1003,.arr 3 (.int .i64) c0)] ?_
  refine AW.seq ?_
  refine zQ h (fun hb6 h=>?_) (fun hb6 h=>?_)
  ·refine zk ?_
   refine AW.seq ?_
   refine AW.block ?_
   refine zo ?_
   refine zB [(0,.sl Y7 s),(1,.fn (.func 101) [] [.bp 1000 0,.bp 1001 0,.bp 1002 0]),(5,.ii st1),(7,.ii (s.length:Int)),(8,.ii st1)] [(1000,.box 25 [.own 1003]),(1001,.box 25 [.sl (.int .i64) c1]),(1002,.box 85 [.ii c2,.sl Y7 c2_2,.fn (.func 94) [] [],.fn (.func 94) [] []]),(1003,.arr 3 (.int .i64) c0)] ?_
   refine zo ?_
   obtain ⟨c7,h⟩:=ck_some.1 h
   obtain ⟨c8,h⟩:=ck_some.1 h
   refine zS 5 [(0,.sl Y7 s),(1,.fn (.func 101) [] [.bp 1000 0,.bp 1001 0,.bp 1002 0]),(5,.ii st1),(7,.ii (s.length:Int)),(8,.ii st1),(11,.fn (.func 101) [] [.bp 1000 0,.bp 1001 0,.bp 1002 0]),(15,.agg [.ii (s.getD st1.toNat (0,0,0,false)).1,.ii (s.getD st1.toNat (0,0,0,false)).2.1,.ii (s.getD st1.toNat (0,0,0,false)).2.2.1,.bool (s.getD st1.toNat (0,0,0,false)).2.2.2])] [(1000,.box 25 [.own 1003]),(1001,.box 25 [.sl (.int .i64) c1]),(1002,.box 85 [.ii c2,.sl Y7 c2_2,.fn (.func 94) [] [],.fn (.func 94) [] []]),(1003,.arr 3 (.int .i64) c0)] ?_
   obtain ⟨v0,hv9,h⟩:=zw h
   refine zC [] [(1000,1000),(1001,1001),(1002,1002),(1003,1003)] (hc_progress_statement_broken_1 (s.getD st1.toNat (0,0,0,false)) c1 c2 c2_2 c0 hv9) [(0,.sl Y7 s),(1,.fn (.func 101) [] [.bp 1000 0,.bp 1001 0,.bp 1002 0]),(5,.ii st1),(7,.ii (s.length:Int)),(8,.ii st1),(16,.bool v0)] [(1000,.box 25 [.own 1003]),(1001,.box 25 [.sl (.int .i64) c1]),(1002,.box 85 [.ii c2,.sl Y7 c2_2,.fn (.func 94) [] [],.fn (.func 94) [] []]),(1003,.arr 3 (.int .i64) c0)] ?_
   refine zB [(0,.sl Y7 s),(1,.fn (.func 101) [] [.bp 1000 0,.bp 1001 0,.bp 1002 0]),(5,.ii st1),(7,.ii (s.length:Int)),(8,.ii st1),(16,.bool v0)] [(1000,.box 25 [.own 1003]),(1001,.box 25 [.sl (.int .i64) c1]),(1002,.box 85 [.ii c2,.sl Y7 c2_2,.fn (.func 94) [] [],.fn (.func 94) [] []]),(1003,.arr 3 (.int .i64) c0)] ?_
   refine zQ h (fun hb10 h=>?_) (fun hb10 h=>?_)
   ·refine zo ?_
    refine zB [(4,.ii st1)] [(1000,.box 25 [.own 1003]),(1001,.box 25 [.sl (.int .i64) c1]),(1002,.box 85 [.ii c2,.sl Y7 c2_2,.fn (.func 94) [] [],.fn (.func 94) [] []]),(1003,.arr 3 (.int .i64) c0)] ?_
    refine AW.ret ?_
    refine ablock_r ?_
    refine athen_r ?_
    obtain rfl:=zj h
    rw [← hd3 _ rfl] at ho2
    have h:=ho2
    try simp only at h
    refine athen_r ?_
    refine ablock_r ?_
    refine athen_r ?_
    obtain rfl:=zj h
    exact zR [] [] []
   refine zm ?_
   refine athen_n ?_
   refine AW.ops ?_
   obtain ⟨c11,h⟩:=ck_some.1 h
   refine zA [(0,.sl Y7 s),(1,.fn (.func 101) [] [.bp 1000 0,.bp 1001 0,.bp 1002 0]),(7,.ii (s.length:Int)),(8,.ii (st1+1))] [(1000,.box 25 [.own 1003]),(1001,.box 25 [.sl (.int .i64) c1]),(1002,.box 85 [.ii c2,.sl Y7 c2_2,.fn (.func 94) [] [],.fn (.func 94) [] []]),(1003,.arr 3 (.int .i64) c0)] ?_
   obtain rfl:=zj h
   exact ⟨_,rfl,zL [] [] []⟩
  refine AW.exit ?_
  refine athen_e ?_
  obtain rfl:=zj h
  rw [← hd3 _ rfl] at ho2
  have h:=ho2
  try simp only at h
  refine athen_e ?_
  refine ablock_s ?_
  refine athen_n ?_
  exact AW.weaken (zL [] [] []) (hk_slices_IndexFunc_k1 () h)
theorem hc_progress_statement_broken (s:Int) (s_2:List (Int×Int×Int×Bool)) (ranks:List Int) {r:Int×Int×Int×Bool×Bool} (h:progress_statement_broken s s_2 ranks=some r):HC Try.prog 76 [] [.agg [.ii s,.sl Y7 s_2,.fn (.func 94) [] [],.fn (.func 94) [] []],.sl (.int .i64) ranks] [] (.tup [.agg [.ii r.1,.ii r.2.1,.ii r.2.2.1,.bool r.2.2.2.1],.bool r.2.2.2.2]):=by
 unfold progress_statement_broken at h
 refine zH Try.func76 [.cell 4 61,.tmp 5] 25 ?_
 refine zo ?_
 refine zB [(2,.bp 2 0),(3,.bp 3 0),(4,.bp 4 0)] [(2,.box 85 [.ii s,.sl Y7 s_2,.fn (.func 94) [] [],.fn (.func 94) [] []]),(3,.box 25 [.sl (.int .i64) ranks]),(4,.box 61 [.ii 0,.ii 0,.ii 0,.bool false])] ?_
 refine zo ?_
 refine zS 2 [(2,.bp 2 0),(3,.bp 3 0),(4,.bp 4 0),(9,.agg [.ii s,.sl Y7 s_2])] [(2,.box 85 [.ii s,.sl Y7 s_2,.fn (.func 94) [] [],.fn (.func 94) [] []]),(3,.box 25 [.sl (.int .i64) ranks]),(4,.box 61 [.ii 0,.ii 0,.ii 0,.bool false])] ?_
 obtain ⟨v0,hv1,h⟩:=zw h
 refine zC [] [] (hc_progress_graph_reached (s,s_2) hv1) [(2,.bp 2 0),(3,.bp 3 0),(4,.bp 4 0),(10,.own 20000)] [(2,.box 85 [.ii s,.sl Y7 s_2,.fn (.func 94) [] [],.fn (.func 94) [] []]),(3,.box 25 [.sl (.int .i64) ranks]),(4,.box 61 [.ii 0,.ii 0,.ii 0,.bool false]),(20000,.arr 3 (.int .i64) v0)] ?_
 refine zB [(2,.bp 2 0),(3,.bp 3 0),(4,.bp 4 0),(6,.bp 6 0)] [(2,.box 85 [.ii s,.sl Y7 s_2,.fn (.func 94) [] [],.fn (.func 94) [] []]),(3,.box 25 [.sl (.int .i64) ranks]),(4,.box 61 [.ii 0,.ii 0,.ii 0,.bool false]),(6,.box 25 [.own 20000]),(20000,.arr 3 (.int .i64) v0)] ?_
 refine zo ?_
 refine zS 4 [(2,.bp 2 0),(4,.bp 4 0),(13,.sl Y7 s_2),(14,.fn (.func 101) [] [.bp 6 0,.bp 3 0,.bp 2 0])] [(2,.box 85 [.ii s,.sl Y7 s_2,.fn (.func 94) [] [],.fn (.func 94) [] []]),(3,.box 25 [.sl (.int .i64) ranks]),(4,.box 61 [.ii 0,.ii 0,.ii 0,.bool false]),(6,.box 25 [.own 20000]),(20000,.arr 3 (.int .i64) v0)] ?_
 obtain ⟨v0_2,hv2,h⟩:=zw h
 refine zC [] [(1000,6),(1001,3),(1002,2),(1003,20000)] (hc_slices_IndexFunc s_2 ranks s s_2 v0 hv2) [(2,.bp 2 0),(4,.bp 4 0),(15,.ii v0_2)] [(2,.box 85 [.ii s,.sl Y7 s_2,.fn (.func 94) [] [],.fn (.func 94) [] []]),(4,.box 61 [.ii 0,.ii 0,.ii 0,.bool false])] ?_
 refine zB [(2,.bp 2 0),(4,.bp 4 0),(7,.ii v0_2)] [(2,.box 85 [.ii s,.sl Y7 s_2,.fn (.func 94) [] [],.fn (.func 94) [] []]),(4,.box 61 [.ii 0,.ii 0,.ii 0,.bool false])] ?_
 refine AW.seq ?_
 refine zo ?_
 refine zB [(2,.bp 2 0),(4,.bp 4 0),(7,.ii v0_2),(17,.bool (decide (v0_2<0)))] [(2,.box 85 [.ii s,.sl Y7 s_2,.fn (.func 94) [] [],.fn (.func 94) [] []]),(4,.box 61 [.ii 0,.ii 0,.ii 0,.bool false])] ?_
 refine zQ h (fun hb3 h=>?_) (fun hb3 h=>?_)
 ·refine zo ?_
  refine zB [(4,.bp 4 0),(5,.bool false)] [(4,.box 61 [.ii 0,.ii 0,.ii 0,.bool false])] ?_
  refine zr ?_
  obtain rfl:=zj h
  exact zR [] [] []
 refine zk ?_
 refine zo ?_
 obtain ⟨c4,h⟩:=ck_some.1 h
 obtain ⟨c5,h⟩:=ck_some.1 h
 refine zS 5 [(4,.bp 4 0),(23,.dp Y7 (s_2.getD v0_2.toNat (0,0,0,false)) 0)] [(4,.box 61 [.ii 0,.ii 0,.ii 0,.bool false])] ?_
 refine zB [(4,.bp 4 0),(5,.bool true)] [(4,.box 61 [.ii (s_2.getD v0_2.toNat (0,0,0,false)).1,.ii (s_2.getD v0_2.toNat (0,0,0,false)).2.1,.ii (s_2.getD v0_2.toNat (0,0,0,false)).2.2.1,.bool (s_2.getD v0_2.toNat (0,0,0,false)).2.2.2])] ?_
 refine AW.ret ?_
 obtain rfl:=zj h
 exact zR [] [] []
theorem hc_progress_statement_ranks (s:Int) (s_2:List (Int×Int×Int×Bool)) {r:(List Int)×Bool} (h:progress_statement_ranks s s_2=some r):HC Try.prog 72 [] [.agg [.ii s,.sl Y7 s_2,.fn (.func 94) [] [],.fn (.func 94) [] []]] [(2000,.arr 3 (.int .i64) r.1)] (.tup [.own 2000,.bool r.2]):=by
 unfold progress_statement_ranks at h
 refine zH Try.func72 [.tmp 2,.tmp 3] 37 ?_
 refine zo ?_
 refine zB [(1,.bp 1 0)] [(1,.box 85 [.ii s,.sl Y7 s_2,.fn (.func 94) [] [],.fn (.func 94) [] []])] ?_
 refine zo ?_
 obtain ⟨c1,h⟩:=ck_some.1 h
 obtain ⟨c2,h⟩:=ck_some.1 h
 refine zB [(1,.bp 1 0),(4,.own 10)] [(1,.box 85 [.ii s,.sl Y7 s_2,.fn (.func 94) [] [],.fn (.func 94) [] []]),(10,.arr 3 (.int .i64) (List.replicate s.toNat (0:Int)))] ?_
 refine AW.block ?_
 obtain ⟨rv7,hw3,ho4⟩:=zw h
 refine AW.loopO (progress_statement_ranks_b1 s s_2) (fun st1=>⟨fr [(1,.bp 1 0),(4,.own 10)],hpGet [(1,.box 85 [.ii s,.sl Y7 s_2,.fn (.func 94) [] [],.fn (.func 94) [] []]),(10,.arr 3 (.int .i64) st1)],gt⟩) (List.replicate s.toNat (0:Int)) hw3 (zL [] [] []) ?_
 as_aux_lemma =>
  intro st1 x6 h hd5
  unfold progress_statement_ranks_b1 at h
  refine AW.block ?_
  refine zo ?_
  refine zS 2 [(1,.bp 1 0),(4,.own 10),(12,.agg [.ii s,.sl Y7 s_2,.fn (.func 94) [] [],.fn (.func 94) [] []]),(13,.own 10)] [(1,.box 85 [.ii s,.sl Y7 s_2,.fn (.func 94) [] [],.fn (.func 94) [] []]),(10,.arr 3 (.int .i64) st1)] ?_
  obtain ⟨v0,hv8,h⟩:=zw h
  refine zC [10] [] (hc_progress_statement_broken s s_2 st1 hv8) [(1,.bp 1 0),(4,.own 10),(14,.tup [.agg [.ii v0.1,.ii v0.2.1,.ii v0.2.2.1,.bool v0.2.2.2.1],.bool v0.2.2.2.2])] [(1,.box 85 [.ii s,.sl Y7 s_2,.fn (.func 94) [] [],.fn (.func 94) [] []]),(10,.arr 3 (.int .i64) st1)] ?_
  refine zS 5 [(1,.bp 1 0),(4,.own 10),(5,.bp 5 0),(16,.bool v0.2.2.2.2)] [(1,.box 85 [.ii s,.sl Y7 s_2,.fn (.func 94) [] [],.fn (.func 94) [] []]),(5,.box 61 [.ii v0.1,.ii v0.2.1,.ii v0.2.2.1,.bool v0.2.2.2.1]),(10,.arr 3 (.int .i64) st1)] ?_
  refine zB [(1,.bp 1 0),(4,.own 10),(5,.bp 5 0),(6,.bool v0.2.2.2.2)] [(1,.box 85 [.ii s,.sl Y7 s_2,.fn (.func 94) [] [],.fn (.func 94) [] []]),(5,.box 61 [.ii v0.1,.ii v0.2.1,.ii v0.2.2.1,.bool v0.2.2.2.1]),(10,.arr 3 (.int .i64) st1)] ?_
  refine AW.seq ?_
  refine zo ?_
  refine zB [(1,.bp 1 0),(4,.own 10),(5,.bp 5 0),(18,.bool (!v0.2.2.2.2))] [(1,.box 85 [.ii s,.sl Y7 s_2,.fn (.func 94) [] [],.fn (.func 94) [] []]),(5,.box 61 [.ii v0.1,.ii v0.2.1,.ii v0.2.2.1,.bool v0.2.2.2.1]),(10,.arr 3 (.int .i64) st1)] ?_
  refine zQ h (fun hb9 h=>?_) (fun hb9 h=>?_)
  ·refine zo ?_
   refine zB [(2,.own 10),(3,.bool true)] [(10,.arr 3 (.int .i64) st1)] ?_
   refine zr ?_
   refine ablock_r ?_
   obtain rfl:=zj h
   rw [← hd5 _ rfl] at ho4
   have h:=ho4
   refine athen_r ?_
   refine ablock_r ?_
   obtain rfl:=zj h
   exact zR [] [] [(2000,10)]
  refine zk ?_
  refine AW.seq ?_
  refine AW.draw tab_ok mixed_ok [(8,[10])] [] (by decide) (lex_fast (by kernel_rfl)) ?_
  as_aux_lemma =>
   refine adops_cut 6 (fun K' hK10=>?_)
   try dsimp only [y1,y2,y3,y4]
   simp only [go_sem,hb9]
   repeat with_reducible refine zN ?_
   refine hK10 _ ?_
   as_aux_lemma =>
    obtain ⟨v0_2,hv11,h⟩:=zw h
    refine adops.call (by first|trivial|rfl) rfl rfl rfl (fun _ h=>h) [10] [] (hc_progress_statement_least s s_2 (v0.1,v0.2.1,v0.2.2.1,v0.2.2.2.1) st1 hv11) rfl (by (simp only [go_sem,hb9])<;>(with_reducible and_intros)<;>first|assumption|rfl|omega|(unfold maxLen; omega)) (by (simp only [go_sem,hb9])<;>(with_reducible and_intros)<;>first|assumption|rfl|omega|(unfold maxLen; omega)) rfl ?_
    obtain ⟨c13,h⟩:=ck_some.1 h
    obtain ⟨c14,h⟩:=ck_some.1 h
    refine adops_cut 2 (fun K' hK12=>?_)
    try dsimp only [y1,y2,y3,y4]
    simp only [go_sem,hb9]
    repeat with_reducible refine zN ?_
    refine hK12 _ ?_
    refine adops_nil ?_
    refine athen_n ?_
    refine zV [(1,.bp 1 0),(4,.own 10),(5,.bp 5 0)] [(1,.box 85 [.ii s,.sl Y7 s_2,.fn (.func 94) [] [],.fn (.func 94) [] []]),(5,.box 61 [.ii v0.1,.ii v0.2.1,.ii v0.2.2.1,.bool v0.2.2.2.1]),(10,.arr 3 (.int .i64) (st1.set v0.1.toNat v0_2))] gt ?_
    as_aux_lemma =>
     refine AW.seq ?_
     refine AW.draw tab_ok mixed_ok [] [] (by decide) (lex_fast (by kernel_rfl)) ?_
     as_aux_lemma =>
      obtain ⟨c16,h⟩:=ck_some.1 h
      obtain ⟨c17,h⟩:=ck_some.1 h
      refine adops_cut 6 (fun K' hK15=>?_)
      try dsimp only [y1,y2,y3,y4]
      simp only [go_sem,hb9]
      repeat with_reducible refine zN ?_
      refine hK15 _ ?_
      as_aux_lemma =>
       refine adops_cut 3 (fun K' hK18=>?_)
       try dsimp only [y1,y2,y3,y4]
       simp only [go_sem,hb9]
       repeat with_reducible refine zN ?_
       refine hK18 _ ?_
       refine adops_nil ?_
       refine athen_n ?_
       refine zV [(1,.bp 1 0),(4,.own 10),(36,.bool (decide (s≤((st1.set v0.1.toNat v0_2).getD v0.1.toNat 0))))] [(1,.box 85 [.ii s,.sl Y7 s_2,.fn (.func 94) [] [],.fn (.func 94) [] []]),(10,.arr 3 (.int .i64) (st1.set v0.1.toNat v0_2))] gt ?_
       as_aux_lemma =>
        refine zQ h (fun hb19 h=>?_) (fun hb19 h=>?_)
        ·refine zo ?_
         refine zB [(2,.cv (.slice none 0 0)),(3,.bool false)] [] ?_
         refine AW.ret ?_
         refine ablock_r ?_
         obtain rfl:=zj h
         rw [← hd5 _ rfl] at ho4
         have h:=ho4
         refine athen_r ?_
         refine ablock_r ?_
         obtain rfl:=zj h
         exact zR [] [2000] []
        refine zm ?_
        obtain rfl:=zj h
        exact ⟨_,rfl,zL [] [] []⟩
theorem hc_progress_statementOf_2 (m:Int×Int×Int×Bool) (a1:Int) {r:Bool} (h:progress_statementOf_2 m a1=some r):HC Try.prog 95 [] [.agg [.ii m.1,.ii m.2.1,.ii m.2.2.1,.bool m.2.2.2],.dp (.int .i64) a1 0] [] (.bool r):=by
 unfold progress_statementOf_2 at h
 refine zH Try.func95 [.tmp 3] 13 ?_
 refine zo ?_
 refine zB [(1,.dp (.int .i64) a1 0),(2,.bp 2 0)] [(2,.box 61 [.ii m.1,.ii m.2.1,.ii m.2.2.1,.bool m.2.2.2])] ?_
 refine zo ?_
 refine zS 5 [(2,.bp 2 0),(8,.bool (decide (m.2.1=a1)))] [(2,.box 61 [.ii m.1,.ii m.2.1,.ii m.2.2.1,.bool m.2.2.2])] ?_
 rcases zI h with ⟨hb1,h⟩|⟨hb1,h⟩
 ·refine zB [(3,.bool (!m.2.2.2))] [] ?_
  refine AW.ret ?_
  obtain rfl:=zj h
  exact zR [] [] []
 refine zB [(3,.bool false)] [] ?_
 refine AW.ret ?_
 obtain rfl:=zj h
 exact zR [] [] []
theorem hc_progress_statementOf_3 (m:Int×Int×Int×Bool) (a1:Int) {r:Bool} (h:progress_statementOf_3 m a1=some r):HC Try.prog 96 [] [.agg [.ii m.1,.ii m.2.1,.ii m.2.2.1,.bool m.2.2.2],.dp (.int .i64) a1 0] [] (.bool r):=by
 unfold progress_statementOf_3 at h
 refine zH Try.func96 [.tmp 3] 13 ?_
 refine zo ?_
 refine zB [(1,.dp (.int .i64) a1 0),(2,.bp 2 0)] [(2,.box 61 [.ii m.1,.ii m.2.1,.ii m.2.2.1,.bool m.2.2.2])] ?_
 refine zo ?_
 refine zS 5 [(2,.bp 2 0),(8,.bool (!(decide (m.2.1=a1))))] [(2,.box 61 [.ii m.1,.ii m.2.1,.ii m.2.2.1,.bool m.2.2.2])] ?_
 rcases zI h with ⟨hb1,h⟩|⟨hb1,h⟩
 ·refine zB [(3,.bool true)] [] ?_
  refine AW.ret ?_
  obtain rfl:=zj h
  exact zR [] [] []
 refine zB [(3,.bool (!m.2.2.2))] [] ?_
 refine AW.ret ?_
 obtain rfl:=zj h
 exact zR [] [] []
theorem hc_progress_statement_least_2 (s:Int) (s_2:List (Int×Int×Int×Bool)) (c0:Int) (c0_2:Int) (m:Int×Int×Int×Bool) (ranks:List Int) {r:Int} (h:progress_statement_least_2 s s_2 c0 c0_2 m ranks=some r):HC Try.prog 97 [] [.agg [.ii s,.sl Y7 s_2,.fn (.func 96) [] [.dp (.int .i64) c0 0],.fn (.func 95) [] [.dp (.int .i64) c0_2 0]],.agg [.ii m.1,.ii m.2.1,.ii m.2.2.1,.bool m.2.2.2],.sl (.int .i64) ranks] [] (.ii r):=by
 unfold progress_statement_least_2 at h
 refine zH Try.func97 [.tmp 6] 28 ?_
 refine zo ?_
 refine zB [(2,.sl (.int .i64) ranks),(3,.bp 3 0),(4,.bp 4 0)] [(3,.box 85 [.ii s,.sl Y7 s_2,.fn (.func 96) [] [.dp (.int .i64) c0 0],.fn (.func 95) [] [.dp (.int .i64) c0_2 0]]),(4,.box 61 [.ii m.1,.ii m.2.1,.ii m.2.2.1,.bool m.2.2.2])] ?_
 refine AW.block ?_
 refine zo ?_
 refine zS 3 [(2,.sl (.int .i64) ranks),(3,.bp 3 0),(4,.bp 4 0),(9,.fn (.func 95) [] [.dp (.int .i64) c0_2 0]),(10,.agg [.ii m.1,.ii m.2.1,.ii m.2.2.1,.bool m.2.2.2])] [(3,.box 85 [.ii s,.sl Y7 s_2,.fn (.func 96) [] [.dp (.int .i64) c0 0],.fn (.func 95) [] [.dp (.int .i64) c0_2 0]]),(4,.box 61 [.ii m.1,.ii m.2.1,.ii m.2.2.1,.bool m.2.2.2])] ?_
 obtain ⟨v0,hv1,h⟩:=zw h
 refine zC [] [] (hc_progress_statementOf_2 m c0_2 hv1) [(2,.sl (.int .i64) ranks),(3,.bp 3 0),(4,.bp 4 0),(11,.bool v0)] [(3,.box 85 [.ii s,.sl Y7 s_2,.fn (.func 96) [] [.dp (.int .i64) c0 0],.fn (.func 95) [] [.dp (.int .i64) c0_2 0]]),(4,.box 61 [.ii m.1,.ii m.2.1,.ii m.2.2.1,.bool m.2.2.2])] ?_
 refine zB [(2,.sl (.int .i64) ranks),(3,.bp 3 0),(4,.bp 4 0),(7,.bool v0)] [(3,.box 85 [.ii s,.sl Y7 s_2,.fn (.func 96) [] [.dp (.int .i64) c0 0],.fn (.func 95) [] [.dp (.int .i64) c0_2 0]]),(4,.box 61 [.ii m.1,.ii m.2.1,.ii m.2.2.1,.bool m.2.2.2])] ?_
 refine zQ h (fun hb2 h=>?_) (fun hb2 h=>?_)
 ·refine zo ?_
  obtain ⟨c3,h⟩:=ck_some.1 h
  obtain ⟨c4,h⟩:=ck_some.1 h
  refine zS 5 [(16,.ii (ranks.getD m.2.2.1.toNat 0))] [] ?_
  obtain ⟨c5,h⟩:=ck_some.1 h
  refine zB [(6,.ii ((ranks.getD m.2.2.1.toNat 0)+1))] [] ?_
  refine AW.ret ?_
  refine ablock_r ?_
  obtain rfl:=zj h
  exact zR [] [] []
 refine zo ?_
 refine zS 3 [(2,.sl (.int .i64) ranks),(4,.bp 4 0),(20,.fn (.func 96) [] [.dp (.int .i64) c0 0]),(21,.agg [.ii m.1,.ii m.2.1,.ii m.2.2.1,.bool m.2.2.2])] [(4,.box 61 [.ii m.1,.ii m.2.1,.ii m.2.2.1,.bool m.2.2.2])] ?_
 obtain ⟨v0_2,hv6,h⟩:=zw h
 refine zC [] [] (hc_progress_statementOf_3 m c0 hv6) [(2,.sl (.int .i64) ranks),(4,.bp 4 0),(22,.bool v0_2)] [(4,.box 61 [.ii m.1,.ii m.2.1,.ii m.2.2.1,.bool m.2.2.2])] ?_
 refine zB [(2,.sl (.int .i64) ranks),(4,.bp 4 0),(18,.bool v0_2)] [(4,.box 61 [.ii m.1,.ii m.2.1,.ii m.2.2.1,.bool m.2.2.2])] ?_
 refine zQ h (fun hb7 h=>?_) (fun hb7 h=>?_)
 ·refine zo ?_
  obtain ⟨c8,h⟩:=ck_some.1 h
  obtain ⟨c9,h⟩:=ck_some.1 h
  refine zS 5 [(27,.ii (ranks.getD m.2.2.1.toNat 0))] [] ?_
  refine zB [(6,.ii (ranks.getD m.2.2.1.toNat 0))] [] ?_
  refine AW.ret ?_
  refine ablock_r ?_
  obtain rfl:=zj h
  exact zR [] [] []
 refine zo ?_
 refine zB [(6,.ii 0)] [] ?_
 refine AW.ret ?_
 refine ablock_r ?_
 obtain rfl:=zj h
 exact zR [] [] []
theorem hc_progress_statement_broken_1_2 (m:Int×Int×Int×Bool) (a2:List Int) (a3:Int) (a3_2:List (Int×Int×Int×Bool)) (c0:Int) (c0_2:Int) (a1:List Int) {r:Bool} (h:progress_statement_broken_1_2 m a2 a3 a3_2 c0 c0_2 a1=some r):HC Try.prog 101 [(1000,.box 25 [.own 1003]),(1001,.box 25 [.sl (.int .i64) a2]),(1002,.box 85 [.ii a3,.sl Y7 a3_2,.fn (.func 96) [] [.dp (.int .i64) c0 0],.fn (.func 95) [] [.dp (.int .i64) c0_2 0]]),(1003,.arr 3 (.int .i64) a1)] [.agg [.ii m.1,.ii m.2.1,.ii m.2.2.1,.bool m.2.2.2],.bp 1000 0,.bp 1001 0,.bp 1002 0] [(1000,.box 25 [.own 1003]),(1001,.box 25 [.sl (.int .i64) a2]),(1002,.box 85 [.ii a3,.sl Y7 a3_2,.fn (.func 96) [] [.dp (.int .i64) c0 0],.fn (.func 95) [] [.dp (.int .i64) c0_2 0]]),(1003,.arr 3 (.int .i64) a1)] (.bool r):=by
 unfold progress_statement_broken_1_2 at h
 refine zH Try.func101 [.tmp 5] 22 ?_
 refine zo ?_
 refine zB [(1,.bp 1000 0),(2,.bp 1001 0),(3,.bp 1002 0),(4,.bp 4 0)] [(4,.box 61 [.ii m.1,.ii m.2.1,.ii m.2.2.1,.bool m.2.2.2]),(1000,.box 25 [.own 1003]),(1001,.box 25 [.sl (.int .i64) a2]),(1002,.box 85 [.ii a3,.sl Y7 a3_2,.fn (.func 96) [] [.dp (.int .i64) c0 0],.fn (.func 95) [] [.dp (.int .i64) c0_2 0]]),(1003,.arr 3 (.int .i64) a1)] ?_
 refine AW.seq ?_
 refine AW.draw tab_ok mixed_ok [] [] (by decide) (lex_fast (by kernel_rfl)) ?_
 as_aux_lemma =>
  refine adops_cut 3 (fun K' hK1=>?_)
  try dsimp only [y1,y2,y3,y4]
  simp only [go_sem]
  repeat with_reducible refine zN ?_
  refine hK1 _ ?_
  as_aux_lemma =>
   obtain ⟨v0,hv2,h⟩:=zw h
   refine adops.call (by first|trivial|rfl) rfl rfl rfl (fun _ h=>h) [1003] [] (hc_slices_Contains_2 a1 m.1 hv2) rfl (by (simp only [go_sem])<;>(with_reducible and_intros)<;>first|assumption|rfl|omega|(unfold maxLen; omega)) (by (simp only [go_sem])<;>(with_reducible and_intros)<;>first|assumption|rfl|omega|(unfold maxLen; omega)) rfl ?_
   refine adops_cut 1 (fun K' hK3=>?_)
   try dsimp only [y1,y2,y3,y4]
   simp only [go_sem]
   repeat with_reducible refine zN ?_
   refine hK3 _ ?_
   as_aux_lemma =>
    rcases zI h with ⟨hb4,h⟩|⟨hb4,h⟩
    ·simp only [hb4]
     as_aux_lemma =>
      obtain ⟨c6,h⟩:=ck_some.1 h
      obtain ⟨c7,h⟩:=ck_some.1 h
      refine adops_cut 6 (fun K' hK5=>?_)
      try dsimp only [y1,y2,y3,y4]
      simp only [go_sem,hb4]
      repeat with_reducible refine zN ?_
      refine hK5 _ ?_
      as_aux_lemma =>
       refine adops_cut 2 (fun K' hK8=>?_)
       try dsimp only [y1,y2,y3,y4]
       simp only [go_sem,hb4]
       repeat with_reducible refine zN ?_
       refine hK8 _ ?_
       as_aux_lemma =>
        obtain ⟨v0_2,hv9,h⟩:=zw h
        refine adops.call (by first|trivial|rfl) rfl rfl rfl (fun _ h=>⟨fun _=>h,fun hn=>absurd rfl hn⟩) [] [] (hc_progress_statement_least_2 a3 a3_2 c0 c0_2 m a2 hv9) rfl (by (simp only [go_sem,hb4])<;>(with_reducible and_intros)<;>first|assumption|rfl|omega|(unfold maxLen; omega)) (by (simp only [go_sem,hb4])<;>(with_reducible and_intros)<;>first|assumption|rfl|omega|(unfold maxLen; omega)) rfl ?_
        refine adops_cut 3 (fun K' hK10=>?_)
        try dsimp only [y1,y2,y3,y4]
        simp only [go_sem,hb4]
        repeat with_reducible refine zN ?_
        refine hK10 _ ?_
        refine adops_nil ?_
        refine athen_n ?_
        refine zV [(5,.bool (decide ((a2.getD m.1.toNat 0)<v0_2)))] [(1000,.box 25 [.own 1003]),(1001,.box 25 [.sl (.int .i64) a2]),(1002,.box 85 [.ii a3,.sl Y7 a3_2,.fn (.func 96) [] [.dp (.int .i64) c0 0],.fn (.func 95) [] [.dp (.int .i64) c0_2 0]]),(1003,.arr 3 (.int .i64) a1)] gt ?_
        as_aux_lemma =>
         refine AW.ret ?_
         obtain rfl:=zj h
         exact zR [] [] []
    simp only [hb4]
    as_aux_lemma =>
     refine adops_cut 4 (fun K' hK11=>?_)
     try dsimp only [y1,y2,y3,y4]
     simp only [go_sem,hb4]
     repeat with_reducible refine zN ?_
     refine hK11 _ ?_
     as_aux_lemma =>
      refine adops_cut 4 (fun K' hK12=>?_)
      try dsimp only [y1,y2,y3,y4]
      simp only [go_sem,hb4]
      repeat with_reducible refine zN ?_
      refine hK12 _ ?_
      as_aux_lemma =>
       refine adops_cut 4 (fun K' hK13=>?_)
       try dsimp only [y1,y2,y3,y4]
       simp only [go_sem,hb4]
       repeat with_reducible refine zN ?_
       refine hK13 _ ?_
       refine adops_nil ?_
       refine athen_n ?_
       refine zV [(5,.bool false)] [(1000,.box 25 [.own 1003]),(1001,.box 25 [.sl (.int .i64) a2]),(1002,.box 85 [.ii a3,.sl Y7 a3_2,.fn (.func 96) [] [.dp (.int .i64) c0 0],.fn (.func 95) [] [.dp (.int .i64) c0_2 0]]),(1003,.arr 3 (.int .i64) a1)] gt ?_
       as_aux_lemma =>
        refine AW.ret ?_
        obtain rfl:=zj h
        exact zR [] [] []
end Go.Proofs.Yteclokkdgmacpaa
