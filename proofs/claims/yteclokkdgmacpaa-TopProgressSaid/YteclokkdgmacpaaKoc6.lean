import Derived.Test.YteclokkdgmacpaaGrp
import Derived.Test.YteclokkdgmacpaaSh7
import Derived.Test.YteclokkdgmacpaaAvd
import Derived.Test.YteclokkdgmacpaaKoc1
import Derived.Test.YteclokkdgmacpaaKoc2
import Derived.Test.YteclokkdgmacpaaKoc3
import Derived.Test.YteclokkdgmacpaaKoc4
import Derived.Test.YteclokkdgmacpaaKoc5
import Derived.Test.YteclokkdgmacpaaYa7
namespace Go.Proofs.Yteclokkdgmacpaa
open Go.RowKit
set_option linter.unusedSimpArgs false
set_option linter.unusedVariables false
set_option linter.constructorNameAsVariable false
set_option maxRecDepth 100000
set_option maxHeartbeats 40000000
theorem hc_progress_statement_broken_3 (s:Int) (s_2:List (Int×Int×Int×Bool)) (c0:Int) (c0_2:Int) (ranks:List Int) {r:Int×Int×Int×Bool×Bool} (h:progress_statement_broken_3 s s_2 c0 c0_2 ranks=some r):HC Try.prog 76 [] [.agg [.ii s,.sl Y7 s_2,.fn (.func 95) [] [.dp (.int .i64) c0 0],.fn (.func 95) [] [.dp (.int .i64) c0_2 0]],.sl (.int .i64) ranks] [] (.tup [.agg [.ii r.1,.ii r.2.1,.ii r.2.2.1,.bool r.2.2.2.1],.bool r.2.2.2.2]):=by
 unfold progress_statement_broken_3 at h
 refine zH Try.func76 [.cell 4 61,.tmp 5] 25 ?_
 refine zo ?_
 refine zB [(2,.bp 2 0),(3,.bp 3 0),(4,.bp 4 0)] [(2,.box 85 [.ii s,.sl Y7 s_2,.fn (.func 95) [] [.dp (.int .i64) c0 0],.fn (.func 95) [] [.dp (.int .i64) c0_2 0]]),(3,.box 25 [.sl (.int .i64) ranks]),(4,.box 61 [.ii 0,.ii 0,.ii 0,.bool false])] ?_
 refine zo ?_
 refine zS 2 [(2,.bp 2 0),(3,.bp 3 0),(4,.bp 4 0),(9,.agg [.ii s,.sl Y7 s_2])] [(2,.box 85 [.ii s,.sl Y7 s_2,.fn (.func 95) [] [.dp (.int .i64) c0 0],.fn (.func 95) [] [.dp (.int .i64) c0_2 0]]),(3,.box 25 [.sl (.int .i64) ranks]),(4,.box 61 [.ii 0,.ii 0,.ii 0,.bool false])] ?_
 obtain ⟨v0,hv1,h⟩:=zw h
 refine zC [] [] (hc_progress_graph_reached (s,s_2) hv1) [(2,.bp 2 0),(3,.bp 3 0),(4,.bp 4 0),(10,.own 20000)] [(2,.box 85 [.ii s,.sl Y7 s_2,.fn (.func 95) [] [.dp (.int .i64) c0 0],.fn (.func 95) [] [.dp (.int .i64) c0_2 0]]),(3,.box 25 [.sl (.int .i64) ranks]),(4,.box 61 [.ii 0,.ii 0,.ii 0,.bool false]),(20000,.arr 3 (.int .i64) v0)] ?_
 refine zB [(2,.bp 2 0),(3,.bp 3 0),(4,.bp 4 0),(6,.bp 6 0)] [(2,.box 85 [.ii s,.sl Y7 s_2,.fn (.func 95) [] [.dp (.int .i64) c0 0],.fn (.func 95) [] [.dp (.int .i64) c0_2 0]]),(3,.box 25 [.sl (.int .i64) ranks]),(4,.box 61 [.ii 0,.ii 0,.ii 0,.bool false]),(6,.box 25 [.own 20000]),(20000,.arr 3 (.int .i64) v0)] ?_
 refine zo ?_
 refine zS 4 [(2,.bp 2 0),(4,.bp 4 0),(13,.sl Y7 s_2),(14,.fn (.func 101) [] [.bp 6 0,.bp 3 0,.bp 2 0])] [(2,.box 85 [.ii s,.sl Y7 s_2,.fn (.func 95) [] [.dp (.int .i64) c0 0],.fn (.func 95) [] [.dp (.int .i64) c0_2 0]]),(3,.box 25 [.sl (.int .i64) ranks]),(4,.box 61 [.ii 0,.ii 0,.ii 0,.bool false]),(6,.box 25 [.own 20000]),(20000,.arr 3 (.int .i64) v0)] ?_
 obtain ⟨v0_2,hv2,h⟩:=zw h
 refine zC [] [(1000,6),(1001,3),(1002,2),(1003,20000)] (hc_slices_IndexFunc_3 s_2 ranks s s_2 c0 c0_2 v0 hv2) [(2,.bp 2 0),(4,.bp 4 0),(15,.ii v0_2)] [(2,.box 85 [.ii s,.sl Y7 s_2,.fn (.func 95) [] [.dp (.int .i64) c0 0],.fn (.func 95) [] [.dp (.int .i64) c0_2 0]]),(4,.box 61 [.ii 0,.ii 0,.ii 0,.bool false])] ?_
 refine zB [(2,.bp 2 0),(4,.bp 4 0),(7,.ii v0_2)] [(2,.box 85 [.ii s,.sl Y7 s_2,.fn (.func 95) [] [.dp (.int .i64) c0 0],.fn (.func 95) [] [.dp (.int .i64) c0_2 0]]),(4,.box 61 [.ii 0,.ii 0,.ii 0,.bool false])] ?_
 refine AW.seq ?_
 refine zo ?_
 refine zB [(2,.bp 2 0),(4,.bp 4 0),(7,.ii v0_2),(17,.bool (decide (v0_2<0)))] [(2,.box 85 [.ii s,.sl Y7 s_2,.fn (.func 95) [] [.dp (.int .i64) c0 0],.fn (.func 95) [] [.dp (.int .i64) c0_2 0]]),(4,.box 61 [.ii 0,.ii 0,.ii 0,.bool false])] ?_
 refine zQ h (fun hb3 h=>?_) (fun hb3 h=>?_)
 ·refine zo ?_
  refine zB [(4,.bp 4 0),(5,.bool false)] [(4,.box 61 [.ii 0,.ii 0,.ii 0,.bool false])] ?_
  refine zr ?_
  obtain rfl:=zj h
  exact zR [] [] []
 refine zk ?_
 refine zo ?_
 obtain ⟨c4,h⟩:=ck_some.1 h
 obtain ⟨c5,h⟩:=ck_some.1 h
 refine zS 5 [(4,.bp 4 0),(23,.dp Y7 (s_2.getD v0_2.toNat (0,0,0,false)) 0)] [(4,.box 61 [.ii 0,.ii 0,.ii 0,.bool false])] ?_
 refine zB [(4,.bp 4 0),(5,.bool true)] [(4,.box 61 [.ii (s_2.getD v0_2.toNat (0,0,0,false)).1,.ii (s_2.getD v0_2.toNat (0,0,0,false)).2.1,.ii (s_2.getD v0_2.toNat (0,0,0,false)).2.2.1,.bool (s_2.getD v0_2.toNat (0,0,0,false)).2.2.2])] ?_
 refine AW.ret ?_
 obtain rfl:=zj h
 exact zR [] [] []
theorem hc_progress_statement_ranks_3 (s:Int) (s_2:List (Int×Int×Int×Bool)) (c0:Int) (c0_2:Int) {r:(List Int)×Bool} (h:progress_statement_ranks_3 s s_2 c0 c0_2=some r):HC Try.prog 72 [] [.agg [.ii s,.sl Y7 s_2,.fn (.func 95) [] [.dp (.int .i64) c0 0],.fn (.func 95) [] [.dp (.int .i64) c0_2 0]]] [(2000,.arr 3 (.int .i64) r.1)] (.tup [.own 2000,.bool r.2]):=by
 unfold progress_statement_ranks_3 at h
 refine zH Try.func72 [.tmp 2,.tmp 3] 37 ?_
 refine zo ?_
 refine zB [(1,.bp 1 0)] [(1,.box 85 [.ii s,.sl Y7 s_2,.fn (.func 95) [] [.dp (.int .i64) c0 0],.fn (.func 95) [] [.dp (.int .i64) c0_2 0]])] ?_
 refine zo ?_
 obtain ⟨c1,h⟩:=ck_some.1 h
 obtain ⟨c2,h⟩:=ck_some.1 h
 refine zB [(1,.bp 1 0),(4,.own 10)] [(1,.box 85 [.ii s,.sl Y7 s_2,.fn (.func 95) [] [.dp (.int .i64) c0 0],.fn (.func 95) [] [.dp (.int .i64) c0_2 0]]),(10,.arr 3 (.int .i64) (List.replicate s.toNat (0:Int)))] ?_
 refine AW.block ?_
 obtain ⟨rv7,hw3,ho4⟩:=zw h
 refine AW.loopO (progress_statement_ranks_3_b1 s s_2 c0 c0_2) (fun st1=>⟨fr [(1,.bp 1 0),(4,.own 10)],hpGet [(1,.box 85 [.ii s,.sl Y7 s_2,.fn (.func 95) [] [.dp (.int .i64) c0 0],.fn (.func 95) [] [.dp (.int .i64) c0_2 0]]),(10,.arr 3 (.int .i64) st1)],gt⟩) (List.replicate s.toNat (0:Int)) hw3 (zL [] [] []) ?_
 as_aux_lemma =>
  intro st1 x6 h hd5
  unfold progress_statement_ranks_3_b1 at h
  refine AW.block ?_
  refine zo ?_
  refine zS 2 [(1,.bp 1 0),(4,.own 10),(12,.agg [.ii s,.sl Y7 s_2,.fn (.func 95) [] [.dp (.int .i64) c0 0],.fn (.func 95) [] [.dp (.int .i64) c0_2 0]]),(13,.own 10)] [(1,.box 85 [.ii s,.sl Y7 s_2,.fn (.func 95) [] [.dp (.int .i64) c0 0],.fn (.func 95) [] [.dp (.int .i64) c0_2 0]]),(10,.arr 3 (.int .i64) st1)] ?_
  obtain ⟨v0,hv8,h⟩:=zw h
  refine zC [10] [] (hc_progress_statement_broken_3 s s_2 c0 c0_2 st1 hv8) [(1,.bp 1 0),(4,.own 10),(14,.tup [.agg [.ii v0.1,.ii v0.2.1,.ii v0.2.2.1,.bool v0.2.2.2.1],.bool v0.2.2.2.2])] [(1,.box 85 [.ii s,.sl Y7 s_2,.fn (.func 95) [] [.dp (.int .i64) c0 0],.fn (.func 95) [] [.dp (.int .i64) c0_2 0]]),(10,.arr 3 (.int .i64) st1)] ?_
  refine zS 5 [(1,.bp 1 0),(4,.own 10),(5,.bp 5 0),(16,.bool v0.2.2.2.2)] [(1,.box 85 [.ii s,.sl Y7 s_2,.fn (.func 95) [] [.dp (.int .i64) c0 0],.fn (.func 95) [] [.dp (.int .i64) c0_2 0]]),(5,.box 61 [.ii v0.1,.ii v0.2.1,.ii v0.2.2.1,.bool v0.2.2.2.1]),(10,.arr 3 (.int .i64) st1)] ?_
  refine zB [(1,.bp 1 0),(4,.own 10),(5,.bp 5 0),(6,.bool v0.2.2.2.2)] [(1,.box 85 [.ii s,.sl Y7 s_2,.fn (.func 95) [] [.dp (.int .i64) c0 0],.fn (.func 95) [] [.dp (.int .i64) c0_2 0]]),(5,.box 61 [.ii v0.1,.ii v0.2.1,.ii v0.2.2.1,.bool v0.2.2.2.1]),(10,.arr 3 (.int .i64) st1)] ?_
  refine AW.seq ?_
  refine zo ?_
  refine zB [(1,.bp 1 0),(4,.own 10),(5,.bp 5 0),(18,.bool (!v0.2.2.2.2))] [(1,.box 85 [.ii s,.sl Y7 s_2,.fn (.func 95) [] [.dp (.int .i64) c0 0],.fn (.func 95) [] [.dp (.int .i64) c0_2 0]]),(5,.box 61 [.ii v0.1,.ii v0.2.1,.ii v0.2.2.1,.bool v0.2.2.2.1]),(10,.arr 3 (.int .i64) st1)] ?_
  refine zQ h (fun hb9 h=>?_) (fun hb9 h=>?_)
  ·refine zo ?_
   refine zB [(2,.own 10),(3,.bool true)] [(10,.arr 3 (.int .i64) st1)] ?_
   refine zr ?_
   refine ablock_r ?_
   obtain rfl:=zj h
   rw [← hd5 _ rfl] at ho4
   have h:=ho4
   refine athen_r ?_
   refine ablock_r ?_
   obtain rfl:=zj h
   exact zR [] [] [(2000,10)]
  refine zk ?_
  refine AW.seq ?_
  refine AW.draw tab_ok mixed_ok [(8,[10])] [] (by decide) (lex_fast (by kernel_rfl)) ?_
  as_aux_lemma =>
   refine adops_cut 6 (fun K' hK10=>?_)
   try dsimp only [y1,y2,y3,y4]
   simp only [go_sem,hb9]
   repeat with_reducible refine zN ?_
   refine hK10 _ ?_
   as_aux_lemma =>
    obtain ⟨v0_2,hv11,h⟩:=zw h
    refine adops.call (by first|trivial|rfl) rfl rfl rfl (fun _ h=>h) [10] [] (hc_progress_statement_least_3 s s_2 c0 c0_2 (v0.1,v0.2.1,v0.2.2.1,v0.2.2.2.1) st1 hv11) rfl (by (simp only [go_sem,hb9])<;>(with_reducible and_intros)<;>first|assumption|rfl|omega|(unfold maxLen; omega)) (by (simp only [go_sem,hb9])<;>(with_reducible and_intros)<;>first|assumption|rfl|omega|(unfold maxLen; omega)) rfl ?_
    obtain ⟨c13,h⟩:=ck_some.1 h
    obtain ⟨c14,h⟩:=ck_some.1 h
    refine adops_cut 2 (fun K' hK12=>?_)
    try dsimp only [y1,y2,y3,y4]
    simp only [go_sem,hb9]
    repeat with_reducible refine zN ?_
    refine hK12 _ ?_
    refine adops_nil ?_
    refine athen_n ?_
    refine zV [(1,.bp 1 0),(4,.own 10),(5,.bp 5 0)] [(1,.box 85 [.ii s,.sl Y7 s_2,.fn (.func 95) [] [.dp (.int .i64) c0 0],.fn (.func 95) [] [.dp (.int .i64) c0_2 0]]),(5,.box 61 [.ii v0.1,.ii v0.2.1,.ii v0.2.2.1,.bool v0.2.2.2.1]),(10,.arr 3 (.int .i64) (st1.set v0.1.toNat v0_2))] gt ?_
    as_aux_lemma =>
     refine AW.seq ?_
     refine AW.draw tab_ok mixed_ok [] [] (by decide) (lex_fast (by kernel_rfl)) ?_
     as_aux_lemma =>
      obtain ⟨c16,h⟩:=ck_some.1 h
      obtain ⟨c17,h⟩:=ck_some.1 h
      refine adops_cut 6 (fun K' hK15=>?_)
      try dsimp only [y1,y2,y3,y4]
      simp only [go_sem,hb9]
      repeat with_reducible refine zN ?_
      refine hK15 _ ?_
      as_aux_lemma =>
       refine adops_cut 3 (fun K' hK18=>?_)
       try dsimp only [y1,y2,y3,y4]
       simp only [go_sem,hb9]
       repeat with_reducible refine zN ?_
       refine hK18 _ ?_
       refine adops_nil ?_
       refine athen_n ?_
       refine zV [(1,.bp 1 0),(4,.own 10),(36,.bool (decide (s≤((st1.set v0.1.toNat v0_2).getD v0.1.toNat 0))))] [(1,.box 85 [.ii s,.sl Y7 s_2,.fn (.func 95) [] [.dp (.int .i64) c0 0],.fn (.func 95) [] [.dp (.int .i64) c0_2 0]]),(10,.arr 3 (.int .i64) (st1.set v0.1.toNat v0_2))] gt ?_
       as_aux_lemma =>
        refine zQ h (fun hb19 h=>?_) (fun hb19 h=>?_)
        ·refine zo ?_
         refine zB [(2,.cv (.slice none 0 0)),(3,.bool false)] [] ?_
         refine AW.ret ?_
         refine ablock_r ?_
         obtain rfl:=zj h
         rw [← hd5 _ rfl] at ho4
         have h:=ho4
         refine athen_r ?_
         refine ablock_r ?_
         obtain rfl:=zj h
         exact zR [] [2000] []
        refine zm ?_
        obtain rfl:=zj h
        exact ⟨_,rfl,zL [] [] []⟩
theorem hc_progress_Ranks (g:Int×(List (Int×Int×Int×Bool))) (claim:Int) (thread:Int) {r:(List Int)×Int} (h:progress_Ranks g claim thread=some r):HC Try.prog 31 [] [.agg [.ii g.1,.sl Y7 g.2],.ii claim,.ii thread] [(2000,.arr 3 (.int .i64) r.1)] (.tup [.own 2000,.ii r.2]):=by
 unfold progress_Ranks at h
 refine zH Try.func31 [.tmp 6,.tmp 7] 30 ?_
 refine zo ?_
 refine zB [(1,.ii claim),(2,.ii thread),(3,.bp 3 0)] [(3,.box 24 [.ii g.1,.sl Y7 g.2])] ?_
 refine zo ?_
 refine zS 3 [(13,.agg [.ii g.1,.sl Y7 g.2]),(14,.ii claim),(15,.ii thread)] [] ?_
 obtain ⟨v0,hv1,h⟩:=zw h
 rcases v0 with v0_2|v0_3|v0_4|v0_5
 ·try simp only at h
  refine zC [] [] (hc_progress_statementOf_a0 g claim thread hv1) [(16,.tup [.agg [.ii 0,.cv (.slice none 0 0),.cv (.nilFunc),.cv (.nilFunc)],.ii v0_2])] [] ?_
  refine zS 5 [(8,.bp 8 0),(18,.ii v0_2)] [(8,.box 85 [.ii 0,.cv (.slice none 0 0),.cv (.nilFunc),.cv (.nilFunc)])] ?_
  refine zB [(8,.bp 8 0),(9,.ii v0_2)] [(8,.box 85 [.ii 0,.cv (.slice none 0 0),.cv (.nilFunc),.cv (.nilFunc)])] ?_
  refine AW.seq ?_
  refine zo ?_
  refine zB [(8,.bp 8 0),(9,.ii v0_2),(20,.bool (!(decide (v0_2=0))))] [(8,.box 85 [.ii 0,.cv (.slice none 0 0),.cv (.nilFunc),.cv (.nilFunc)])] ?_
  refine zQ h (fun hb2 h=>?_) (fun hb2 h=>?_)
  ·refine zo ?_
   refine zB [(6,.cv (.slice none 0 0)),(7,.ii v0_2)] [] ?_
   refine zr ?_
   obtain rfl:=zj h
   exact zR [] [2000] []
  refine zk ?_
  refine zo ?_
  cases h
 ·try simp only at h
  refine zC [] [] (hc_progress_statementOf_a1 g claim thread hv1) [(16,.tup [.agg [.ii v0_3.1,.sl Y7 v0_3.2,.fn (.func 94) [] [],.fn (.func 94) [] []],.ii 0])] [] ?_
  refine zS 5 [(8,.bp 8 0),(18,.ii 0)] [(8,.box 85 [.ii v0_3.1,.sl Y7 v0_3.2,.fn (.func 94) [] [],.fn (.func 94) [] []])] ?_
  refine zB [(8,.bp 8 0),(9,.ii 0)] [(8,.box 85 [.ii v0_3.1,.sl Y7 v0_3.2,.fn (.func 94) [] [],.fn (.func 94) [] []])] ?_
  refine AW.seq ?_
  refine zo ?_
  refine zB [(8,.bp 8 0),(9,.ii 0),(20,.bool false)] [(8,.box 85 [.ii v0_3.1,.sl Y7 v0_3.2,.fn (.func 94) [] [],.fn (.func 94) [] []])] ?_
  refine AW.cond (b:=false) rfl (fun hb3=>by cases hb3) (fun _=>?_)
  refine zk ?_
  refine zo ?_
  refine zS 1 [(23,.agg [.ii v0_3.1,.sl Y7 v0_3.2,.fn (.func 94) [] [],.fn (.func 94) [] []])] [] ?_
  obtain ⟨v0_6,hv4,h⟩:=zw h
  refine zC [] [] (hc_progress_statement_ranks v0_3.1 v0_3.2 hv4) [(24,.tup [.own 34000,.bool v0_6.2])] [(34000,.arr 3 (.int .i64) v0_6.1)] ?_
  refine zB [(10,.own 34000),(11,.bool v0_6.2)] [(34000,.arr 3 (.int .i64) v0_6.1)] ?_
  refine AW.seq ?_
  refine zo ?_
  refine zB [(10,.own 34000),(28,.bool (!v0_6.2))] [(34000,.arr 3 (.int .i64) v0_6.1)] ?_
  refine zQ h (fun hb5 h=>?_) (fun hb5 h=>?_)
  ·refine zo ?_
   refine zB [(6,.cv (.slice none 0 0)),(7,.ii 5)] [] ?_
   refine zr ?_
   obtain rfl:=zj h
   exact zR [] [2000] []
  refine zk ?_
  refine zo ?_
  refine zB [(6,.own 34000),(7,.ii 0)] [(34000,.arr 3 (.int .i64) v0_6.1)] ?_
  refine AW.ret ?_
  obtain rfl:=zj h
  exact zR [] [] [(2000,34000)]
 ·try simp only at h
  refine zC [] [] (hc_progress_statementOf_a2 g claim thread hv1) [(16,.tup [.agg [.ii v0_4.1,.sl Y7 v0_4.2,.fn (.func 96) [] [.bp 26000 0],.fn (.func 95) [] [.bp 26000 0]],.ii 0])] [(26000,.box 3 [.ii thread])] ?_
  refine AO.weaken (s':=⟨fr [(16,.tup [.agg [.ii v0_4.1,.sl Y7 v0_4.2,.fn (.func 96) [] [.dp (.int .i64) thread 0],.fn (.func 95) [] [.dp (.int .i64) thread 0]],.ii 0])],hpGet [],gt⟩) (Wk.boxes [26000] rfl rfl (by (simp only [go_sem])<;>(with_reducible and_intros)<;>first|assumption|rfl|omega|(unfold maxLen; omega)) (by (simp only [go_sem])<;>(with_reducible and_intros)<;>first|assumption|rfl|omega|(unfold maxLen; omega))) ?_
  refine zS 5 [(8,.bp 8 0),(18,.ii 0)] [(8,.box 85 [.ii v0_4.1,.sl Y7 v0_4.2,.fn (.func 96) [] [.dp (.int .i64) thread 0],.fn (.func 95) [] [.dp (.int .i64) thread 0]])] ?_
  refine zB [(8,.bp 8 0),(9,.ii 0)] [(8,.box 85 [.ii v0_4.1,.sl Y7 v0_4.2,.fn (.func 96) [] [.dp (.int .i64) thread 0],.fn (.func 95) [] [.dp (.int .i64) thread 0]])] ?_
  refine AW.seq ?_
  refine zo ?_
  refine zB [(8,.bp 8 0),(9,.ii 0),(20,.bool false)] [(8,.box 85 [.ii v0_4.1,.sl Y7 v0_4.2,.fn (.func 96) [] [.dp (.int .i64) thread 0],.fn (.func 95) [] [.dp (.int .i64) thread 0]])] ?_
  refine AW.cond (b:=false) rfl (fun hb6=>by cases hb6) (fun _=>?_)
  refine zk ?_
  refine zo ?_
  refine zS 1 [(23,.agg [.ii v0_4.1,.sl Y7 v0_4.2,.fn (.func 96) [] [.dp (.int .i64) thread 0],.fn (.func 95) [] [.dp (.int .i64) thread 0]])] [] ?_
  obtain ⟨v0_7,hv7,h⟩:=zw h
  refine zC [] [] (hc_progress_statement_ranks_2 v0_4.1 v0_4.2 thread thread hv7) [(24,.tup [.own 34000,.bool v0_7.2])] [(34000,.arr 3 (.int .i64) v0_7.1)] ?_
  refine zB [(10,.own 34000),(11,.bool v0_7.2)] [(34000,.arr 3 (.int .i64) v0_7.1)] ?_
  refine AW.seq ?_
  refine zo ?_
  refine zB [(10,.own 34000),(28,.bool (!v0_7.2))] [(34000,.arr 3 (.int .i64) v0_7.1)] ?_
  refine zQ h (fun hb8 h=>?_) (fun hb8 h=>?_)
  ·refine zo ?_
   refine zB [(6,.cv (.slice none 0 0)),(7,.ii 5)] [] ?_
   refine zr ?_
   obtain rfl:=zj h
   exact zR [] [2000] []
  refine zk ?_
  refine zo ?_
  refine zB [(6,.own 34000),(7,.ii 0)] [(34000,.arr 3 (.int .i64) v0_7.1)] ?_
  refine AW.ret ?_
  obtain rfl:=zj h
  exact zR [] [] [(2000,34000)]
 try simp only at h
 refine zC [] [] (hc_progress_statementOf_a3 g claim thread hv1) [(16,.tup [.agg [.ii v0_5.1,.sl Y7 v0_5.2,.fn (.func 95) [] [.bp 26000 0],.fn (.func 95) [] [.bp 26000 0]],.ii 0])] [(26000,.box 3 [.ii thread])] ?_
 refine AO.weaken (s':=⟨fr [(16,.tup [.agg [.ii v0_5.1,.sl Y7 v0_5.2,.fn (.func 95) [] [.dp (.int .i64) thread 0],.fn (.func 95) [] [.dp (.int .i64) thread 0]],.ii 0])],hpGet [],gt⟩) (Wk.boxes [26000] rfl rfl (by (simp only [go_sem])<;>(with_reducible and_intros)<;>first|assumption|rfl|omega|(unfold maxLen; omega)) (by (simp only [go_sem])<;>(with_reducible and_intros)<;>first|assumption|rfl|omega|(unfold maxLen; omega))) ?_
 refine zS 5 [(8,.bp 8 0),(18,.ii 0)] [(8,.box 85 [.ii v0_5.1,.sl Y7 v0_5.2,.fn (.func 95) [] [.dp (.int .i64) thread 0],.fn (.func 95) [] [.dp (.int .i64) thread 0]])] ?_
 refine zB [(8,.bp 8 0),(9,.ii 0)] [(8,.box 85 [.ii v0_5.1,.sl Y7 v0_5.2,.fn (.func 95) [] [.dp (.int .i64) thread 0],.fn (.func 95) [] [.dp (.int .i64) thread 0]])] ?_
 refine AW.seq ?_
 refine zo ?_
 refine zB [(8,.bp 8 0),(9,.ii 0),(20,.bool false)] [(8,.box 85 [.ii v0_5.1,.sl Y7 v0_5.2,.fn (.func 95) [] [.dp (.int .i64) thread 0],.fn (.func 95) [] [.dp (.int .i64) thread 0]])] ?_
 refine AW.cond (b:=false) rfl (fun hb9=>by cases hb9) (fun _=>?_)
 refine zk ?_
 refine zo ?_
 refine zS 1 [(23,.agg [.ii v0_5.1,.sl Y7 v0_5.2,.fn (.func 95) [] [.dp (.int .i64) thread 0],.fn (.func 95) [] [.dp (.int .i64) thread 0]])] [] ?_
 obtain ⟨v0_8,hv10,h⟩:=zw h
 refine zC [] [] (hc_progress_statement_ranks_3 v0_5.1 v0_5.2 thread thread hv10) [(24,.tup [.own 34000,.bool v0_8.2])] [(34000,.arr 3 (.int .i64) v0_8.1)] ?_
 refine zB [(10,.own 34000),(11,.bool v0_8.2)] [(34000,.arr 3 (.int .i64) v0_8.1)] ?_
 refine AW.seq ?_
 refine zo ?_
 refine zB [(10,.own 34000),(28,.bool (!v0_8.2))] [(34000,.arr 3 (.int .i64) v0_8.1)] ?_
 refine zQ h (fun hb11 h=>?_) (fun hb11 h=>?_)
 ·refine zo ?_
  refine zB [(6,.cv (.slice none 0 0)),(7,.ii 5)] [] ?_
  refine zr ?_
  obtain rfl:=zj h
  exact zR [] [2000] []
 refine zk ?_
 refine zo ?_
 refine zB [(6,.own 34000),(7,.ii 0)] [(34000,.arr 3 (.int .i64) v0_8.1)] ?_
 refine AW.ret ?_
 obtain rfl:=zj h
 exact zR [] [] [(2000,34000)]
theorem hc_linealref07_SameInts (a:List Int) (b:List Int) {r:Bool} (h:linealref07_SameInts a b=some r):HC Try.prog 24 [] [.sl (.int .i64) a,.sl (.int .i64) b] [] (.bool r):=by
 unfold linealref07_SameInts at h
 refine zH Try.func24 [.tmp 4] 26 ?_
 refine zo ?_
 refine zB [(0,.sl (.int .i64) a),(1,.sl (.int .i64) b)] [] ?_
 refine AW.seq ?_
 refine zo ?_
 refine zB [(0,.sl (.int .i64) a),(1,.sl (.int .i64) b),(10,.bool (!(decide ((a.length:Int)=(b.length:Int)))))] [] ?_
 refine zQ h (fun hb1 h=>?_) (fun hb1 h=>?_)
 ·refine zo ?_
  refine zB [(4,.bool false)] [] ?_
  refine zr ?_
  obtain rfl:=zj h
  exact zR [] [] []
 refine zk ?_
 refine AW.have1 (fun _:Unit=>linealref07_SameInts_k1=some r) (fun _=>⟨fr [],hpGet [],gt⟩) (fun _ h=>?_) (fun hk_linealref07_SameInts_k1=>?_)
 ·as_aux_lemma =>
   unfold linealref07_SameInts_k1 at h
   refine zo ?_
   refine zB [(4,.bool true)] [] ?_
   refine AW.ret ?_
   obtain rfl:=zj h
   exact zR [] [] []
 refine AW.seq ?_
 refine zo ?_
 refine zB [(0,.sl (.int .i64) a),(1,.sl (.int .i64) b),(12,.ii (a.length:Int)),(13,.ii 0)] [] ?_
 refine AW.block ?_
 obtain ⟨rv6,hw2,ho3⟩:=zw h
 refine AW.loopO (linealref07_SameInts_b1 a b) (fun st1=>⟨fr [(0,.sl (.int .i64) a),(1,.sl (.int .i64) b),(12,.ii (a.length:Int)),(13,.ii st1)],hpGet [],gt⟩) 0 hw2 (zL [] [] []) ?_
 as_aux_lemma =>
  intro st1 x5 h hd4
  unfold linealref07_SameInts_b1 at h
  refine zo ?_
  refine zB [(0,.sl (.int .i64) a),(1,.sl (.int .i64) b),(12,.ii (a.length:Int)),(13,.ii st1),(14,.bool (decide (st1<(a.length:Int))))] [] ?_
  refine AW.seq ?_
  refine zQ h (fun hb7 h=>?_) (fun hb7 h=>?_)
  ·refine zk ?_
   refine AW.seq ?_
   refine AW.block ?_
   refine zo ?_
   refine zB [(0,.sl (.int .i64) a),(1,.sl (.int .i64) b),(5,.ii st1),(12,.ii (a.length:Int)),(13,.ii st1)] [] ?_
   refine AW.seq ?_
   refine AW.draw tab_ok mixed_ok [] [] (by decide) (lex_fast (by kernel_rfl)) ?_
   as_aux_lemma =>
    obtain ⟨c9,h⟩:=ck_some.1 h
    obtain ⟨c10,h⟩:=ck_some.1 h
    refine adops_cut 6 (fun K' hK8=>?_)
    try dsimp only [y1,y2,y3,y4]
    simp only [go_sem,hb1,hb7]
    repeat with_reducible refine zN ?_
    refine hK8 _ ?_
    as_aux_lemma =>
     obtain ⟨c12,h⟩:=ck_some.1 h
     obtain ⟨c13,h⟩:=ck_some.1 h
     refine adops_cut 3 (fun K' hK11=>?_)
     try dsimp only [y1,y2,y3,y4]
     simp only [go_sem,hb1,hb7]
     repeat with_reducible refine zN ?_
     refine hK11 _ ?_
     refine adops_nil ?_
     refine athen_n ?_
     refine zV [(0,.sl (.int .i64) a),(1,.sl (.int .i64) b),(12,.ii (a.length:Int)),(13,.ii st1),(24,.bool (!(decide ((a.getD st1.toNat 0)=(b.getD st1.toNat 0)))))] [] gt ?_
     as_aux_lemma =>
      refine zQ h (fun hb14 h=>?_) (fun hb14 h=>?_)
      ·refine zo ?_
       refine zB [(4,.bool false)] [] ?_
       refine AW.ret ?_
       refine ablock_r ?_
       refine athen_r ?_
       obtain rfl:=zj h
       rw [← hd4 _ rfl] at ho3
       have h:=ho3
       try simp only at h
       refine athen_r ?_
       refine ablock_r ?_
       refine athen_r ?_
       obtain rfl:=zj h
       exact zR [] [] []
      refine zm ?_
      refine athen_n ?_
      refine AW.ops ?_
      obtain ⟨c15,h⟩:=ck_some.1 h
      refine zA [(0,.sl (.int .i64) a),(1,.sl (.int .i64) b),(12,.ii (a.length:Int)),(13,.ii (st1+1))] [] ?_
      obtain rfl:=zj h
      exact ⟨_,rfl,zL [] [] []⟩
  refine AW.exit ?_
  refine athen_e ?_
  obtain rfl:=zj h
  rw [← hd4 _ rfl] at ho3
  have h:=ho3
  try simp only at h
  refine athen_e ?_
  refine ablock_s ?_
  refine athen_n ?_
  exact AW.weaken (zL [] [] []) (hk_linealref07_SameInts_k1 () h)
theorem hc_lineallaw07_Awake {r:Bool} (h:lineallaw07_Awake=some r):HC Try.prog 17 [] [] [] (.bool r):=by
 unfold lineallaw07_Awake at h
 refine zH Try.func17 [.tmp 0] 18 ?_
 refine zo ?_
 refine zB [] [] ?_
 refine zo ?_
 refine zS 4 [(7,.agg [.ii 2,.own 6])] [(6,.arr 61 Y7 [(0,0,1,false),(1,1,0,true)])] ?_
 obtain ⟨v0,hv1,h⟩:=zw h
 refine zC [6] [] (hc_progress_Ranks (2,[(0,0,1,false),(1,1,0,true)]) 0 0 hv1) [(8,.tup [.own 18000,.ii v0.2])] [(18000,.arr 3 (.int .i64) v0.1)] ?_
 refine zB [(1,.own 18000),(2,.ii v0.2)] [(18000,.arr 3 (.int .i64) v0.1)] ?_
 refine zo ?_
 refine zS 3 [(1,.own 18000),(13,.bool (decide (v0.2=0)))] [(18000,.arr 3 (.int .i64) v0.1)] ?_
 rcases zI h with ⟨hb2,h⟩|⟨hb2,h⟩
 ·refine zS 2 [(13,.bool true),(14,.own 18000),(15,.own 15)] [(15,.arr 3 (.int .i64) [1,0]),(18000,.arr 3 (.int .i64) v0.1)] ?_
  obtain ⟨v0_2,hv3,h⟩:=zw h
  refine zG [15,18000] [] (hc_linealref07_SameInts v0.1 [1,0] hv3) [(13,.bool true),(16,.bool v0_2)] [] ?_
  refine zB [(0,.bool v0_2)] [] ?_
  refine AW.ret ?_
  obtain rfl:=zj h
  exact zR [] [] []
 refine zB [(0,.bool false)] [] ?_
 refine AW.ret ?_
 obtain rfl:=zj h
 exact zR [] [] []
theorem hc_lineallaw07_Long (g:Int×(List (Int×Int×Int×Bool))) {r:Unit} (h:lineallaw07_Long g=some r):HC Try.prog 15 [] [.agg [.ii g.1,.sl Y7 g.2]] [] (.bool (decide (100<(g.2.length:Int)))):=by
 unfold lineallaw07_Long at h
 refine zH Try.func15 [.tmp 2] 7 ?_
 refine zo ?_
 refine zB [(1,.bp 1 0)] [(1,.box 24 [.ii g.1,.sl Y7 g.2])] ?_
 refine zo ?_
 refine zB [(2,.bool (decide (100<(g.2.length:Int))))] [] ?_
 refine AW.ret ?_
 obtain rfl:=zj h
 exact zR [] [] []
theorem hc_progress_graph_leads (g:Int×(List (Int×Int×Int×Bool))) (from0:Int) (list:List Int) {r:Int×Bool} (h:progress_graph_leads g from0 list=some r):HC Try.prog 87 [] [.agg [.ii g.1,.sl Y7 g.2],.ii from0,.sl (.int .i64) list] [] (.tup [.ii r.1,.bool r.2]):=by
 unfold progress_graph_leads at h
 refine zH Try.func87 [.tmp 6,.tmp 7] 45 ?_
 refine zo ?_
 refine zB [(1,.ii from0),(2,.sl (.int .i64) list),(3,.bp 3 0)] [(3,.box 69 [.ii g.1,.sl Y7 g.2])] ?_
 refine AW.seq ?_
 refine zo ?_
 refine zB [(1,.ii from0),(2,.sl (.int .i64) list),(3,.bp 3 0),(13,.bool (decide (1000<(list.length:Int))))] [(3,.box 69 [.ii g.1,.sl Y7 g.2])] ?_
 refine zQ h (fun hb1 h=>?_) (fun hb1 h=>?_)
 ·refine zo ?_
  refine zB [(6,.ii 0),(7,.bool false)] [] ?_
  refine zr ?_
  obtain rfl:=zj h
  exact zR [] [] []
 refine zk ?_
 refine zo ?_
 refine zB [(2,.sl (.int .i64) list),(3,.bp 3 0),(8,.ii from0)] [(3,.box 69 [.ii g.1,.sl Y7 g.2])] ?_
 refine AW.have1 (fun b1:Int=>progress_graph_leads_k1 b1=some r) (fun b1=>⟨fr [(8,.ii b1)],hpGet [],gt⟩) (fun b1 h=>?_) (fun hk_progress_graph_leads_k1=>?_)
 ·as_aux_lemma =>
   unfold progress_graph_leads_k1 at h
   refine zo ?_
   refine zB [(6,.ii b1),(7,.bool true)] [] ?_
   refine AW.ret ?_
   obtain rfl:=zj h
   exact zR [] [] []
 refine AW.seq ?_
 refine zo ?_
 refine zB [(3,.bp 3 0),(8,.ii from0),(15,.sl (.int .i64) list),(16,.ii (list.length:Int)),(17,.ii 0)] [(3,.box 69 [.ii g.1,.sl Y7 g.2])] ?_
 refine AW.block ?_
 obtain ⟨rv6,hw2,ho3⟩:=zw h
 refine AW.loopO (progress_graph_leads_b1 g list) (fun st1=>⟨fr [(3,.bp 3 0),(8,.ii st1.1),(15,.sl (.int .i64) list),(16,.ii (list.length:Int)),(17,.ii st1.2)],hpGet [(3,.box 69 [.ii g.1,.sl Y7 g.2])],gt⟩) (from0,0) hw2 (zL [] [] []) ?_
 as_aux_lemma =>
  intro st1 x5 h hd4
  unfold progress_graph_leads_b1 at h
  refine zo ?_
  refine zB [(3,.bp 3 0),(8,.ii st1.1),(15,.sl (.int .i64) list),(16,.ii (list.length:Int)),(17,.ii st1.2),(18,.bool (decide (st1.2<(list.length:Int))))] [(3,.box 69 [.ii g.1,.sl Y7 g.2])] ?_
  refine AW.seq ?_
  refine zQ h (fun hb7 h=>?_) (fun hb7 h=>?_)
  ·refine zk ?_
   refine AW.seq ?_
   refine AW.block ?_
   refine zo ?_
   obtain ⟨c8,h⟩:=ck_some.1 h
   obtain ⟨c9,h⟩:=ck_some.1 h
   refine zB [(3,.bp 3 0),(8,.ii st1.1),(10,.ii (list.getD st1.2.toNat 0)),(15,.sl (.int .i64) list),(16,.ii (list.length:Int)),(17,.ii st1.2)] [(3,.box 69 [.ii g.1,.sl Y7 g.2])] ?_
   refine AW.seq ?_
   refine zo ?_
   refine zS 4 [(3,.bp 3 0),(8,.ii st1.1),(10,.ii (list.getD st1.2.toNat 0)),(15,.sl (.int .i64) list),(16,.ii (list.length:Int)),(17,.ii st1.2),(21,.ii (list.getD st1.2.toNat 0)),(24,.ii (g.2.length:Int))] [(3,.box 69 [.ii g.1,.sl Y7 g.2])] ?_
   obtain ⟨v0,hv10,h⟩:=zw h
   refine zC [] [] (hc_progress_isBelow (list.getD st1.2.toNat 0) (g.2.length:Int) hv10) [(3,.bp 3 0),(8,.ii st1.1),(10,.ii (list.getD st1.2.toNat 0)),(15,.sl (.int .i64) list),(16,.ii (list.length:Int)),(17,.ii st1.2),(25,.bool v0)] [(3,.box 69 [.ii g.1,.sl Y7 g.2])] ?_
   refine zS 2 [(3,.bp 3 0),(8,.ii st1.1),(10,.ii (list.getD st1.2.toNat 0)),(15,.sl (.int .i64) list),(16,.ii (list.length:Int)),(17,.ii st1.2),(27,.bool (!v0))] [(3,.box 69 [.ii g.1,.sl Y7 g.2])] ?_
   rcases zI h with ⟨hb11,h⟩|⟨hb11,h⟩
   ·refine zS 4 [(3,.bp 3 0),(8,.ii st1.1),(10,.ii (list.getD st1.2.toNat 0)),(15,.sl (.int .i64) list),(16,.ii (list.length:Int)),(17,.ii st1.2),(27,.bool true),(31,.cv (undef))] [(3,.box 69 [.ii g.1,.sl Y7 g.2])] ?_
    refine zS 4 [(3,.bp 3 0),(10,.ii (list.getD st1.2.toNat 0)),(15,.sl (.int .i64) list),(16,.ii (list.length:Int)),(17,.ii st1.2),(27,.bool true),(35,.cv (undef))] [(3,.box 69 [.ii g.1,.sl Y7 g.2])] ?_
    refine zB [(3,.bp 3 0),(10,.ii (list.getD st1.2.toNat 0)),(15,.sl (.int .i64) list),(16,.ii (list.length:Int)),(17,.ii st1.2),(36,.bool true)] [(3,.box 69 [.ii g.1,.sl Y7 g.2])] ?_
    refine AW.cond (b:=true) rfl (fun _=>?_) (fun hb12=>by cases hb12)
    refine zo ?_
    refine zB [(6,.ii 0),(7,.bool false)] [] ?_
    refine zr ?_
    refine ablock_r ?_
    refine athen_r ?_
    obtain rfl:=zj h
    rw [← hd4 _ rfl] at ho3
    have h:=ho3
    try simp only at h
    refine athen_r ?_
    refine ablock_r ?_
    refine athen_r ?_
    obtain rfl:=zj h
    exact zR [] [] []
   obtain ⟨c13,h⟩:=ck_some.1 h
   obtain ⟨c14,h⟩:=ck_some.1 h
   refine zS 5 [(3,.bp 3 0),(8,.ii st1.1),(10,.ii (list.getD st1.2.toNat 0)),(15,.sl (.int .i64) list),(16,.ii (list.length:Int)),(17,.ii st1.2),(27,.bool false),(32,.dp Y7 (g.2.getD (list.getD st1.2.toNat 0).toNat (0,0,0,false)) 0)] [(3,.box 69 [.ii g.1,.sl Y7 g.2])] ?_
   refine zB [(3,.bp 3 0),(10,.ii (list.getD st1.2.toNat 0)),(15,.sl (.int .i64) list),(16,.ii (list.length:Int)),(17,.ii st1.2),(36,.bool (!(decide ((g.2.getD (list.getD st1.2.toNat 0).toNat (0,0,0,false)).1=st1.1))))] [(3,.box 69 [.ii g.1,.sl Y7 g.2])] ?_
   refine zQ h (fun hb15 h=>?_) (fun hb15 h=>?_)
   ·refine zo ?_
    refine zB [(6,.ii 0),(7,.bool false)] [] ?_
    refine zr ?_
    refine ablock_r ?_
    refine athen_r ?_
    obtain rfl:=zj h
    rw [← hd4 _ rfl] at ho3
    have h:=ho3
    try simp only at h
    refine athen_r ?_
    refine ablock_r ?_
    refine athen_r ?_
    obtain rfl:=zj h
    exact zR [] [] []
   refine zk ?_
   refine AW.ops ?_
   obtain ⟨c16,h⟩:=ck_some.1 h
   obtain ⟨c17,h⟩:=ck_some.1 h
   refine zS 5 [(3,.bp 3 0),(15,.sl (.int .i64) list),(16,.ii (list.length:Int)),(17,.ii st1.2),(41,.dp Y7 (g.2.getD (list.getD st1.2.toNat 0).toNat (0,0,0,false)) 2)] [(3,.box 69 [.ii g.1,.sl Y7 g.2])] ?_
   refine zA [(3,.bp 3 0),(8,.ii (g.2.getD (list.getD st1.2.toNat 0).toNat (0,0,0,false)).2.2.1),(15,.sl (.int .i64) list),(16,.ii (list.length:Int)),(17,.ii st1.2)] [(3,.box 69 [.ii g.1,.sl Y7 g.2])] ?_
   refine ablock_n ?_
   refine athen_n ?_
   refine AW.ops ?_
   obtain ⟨c18,h⟩:=ck_some.1 h
   refine zA [(3,.bp 3 0),(8,.ii (g.2.getD (list.getD st1.2.toNat 0).toNat (0,0,0,false)).2.2.1),(15,.sl (.int .i64) list),(16,.ii (list.length:Int)),(17,.ii (st1.2+1))] [(3,.box 69 [.ii g.1,.sl Y7 g.2])] ?_
   obtain rfl:=zj h
   exact ⟨_,rfl,zL [] [] []⟩
  refine AW.exit ?_
  refine athen_e ?_
  obtain rfl:=zj h
  rw [← hd4 _ rfl] at ho3
  have h:=ho3
  try simp only at h
  refine athen_e ?_
  refine ablock_s ?_
  refine athen_n ?_
  exact AW.weaken (zL [] [] []) (hk_progress_graph_leads_k1 _ h)
theorem hc_linealref07_IsPlace (g:Int×(List (Int×Int×Int×Bool))) (p:Int) {r:Bool} (h:linealref07_IsPlace g p=some r):HC Try.prog 62 [] [.agg [.ii g.1,.sl Y7 g.2],.ii p] [] (.bool r):=by
 unfold linealref07_IsPlace at h
 refine zH Try.func62 [.tmp 4] 13 ?_
 refine zo ?_
 refine zB [(1,.ii p),(2,.bp 2 0)] [(2,.box 24 [.ii g.1,.sl Y7 g.2])] ?_
 refine zo ?_
 refine zS 3 [(1,.ii p),(2,.bp 2 0),(7,.bool (decide (0≤p)))] [(2,.box 24 [.ii g.1,.sl Y7 g.2])] ?_
 rcases zI h with ⟨hb1,h⟩|⟨hb1,h⟩
 ·refine zS 5 [(12,.bool (decide (p<g.1)))] [] ?_
  refine zB [(4,.bool (decide (p<g.1)))] [] ?_
  refine AW.ret ?_
  obtain rfl:=zj h
  exact zR [] [] []
 refine zS 4 [(7,.bool false),(11,.cv (undef))] [] ?_
 refine zB [(4,.bool false)] [] ?_
 refine AW.ret ?_
 obtain rfl:=zj h
 exact zR [] [] []
theorem hc_linealref07_IsThread (t:Int) {r:Bool} (h:linealref07_IsThread t=some r):HC Try.prog 63 [] [.ii t] [] (.bool r):=by
 unfold linealref07_IsThread at h
 refine zH Try.func63 [.tmp 2] 9 ?_
 refine zo ?_
 refine zB [(0,.ii t)] [] ?_
 refine zo ?_
 refine zS 3 [(0,.ii t),(5,.bool (decide (0≤t)))] [] ?_
 rcases zI h with ⟨hb1,h⟩|⟨hb1,h⟩
 ·refine zB [(2,.bool (decide (t<3)))] [] ?_
  refine AW.ret ?_
  obtain rfl:=zj h
  exact zR [] [] []
 refine zB [(2,.bool false)] [] ?_
 refine AW.ret ?_
 obtain rfl:=zj h
 exact zR [] [] []
end Go.Proofs.Yteclokkdgmacpaa
