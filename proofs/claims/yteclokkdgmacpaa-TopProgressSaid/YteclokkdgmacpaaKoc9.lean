import Derived.Test.YteclokkdgmacpaaGrp
import Derived.Test.YteclokkdgmacpaaSh7
import Derived.Test.YteclokkdgmacpaaAvd
import Derived.Test.YteclokkdgmacpaaKoc2
import Derived.Test.YteclokkdgmacpaaKoc4
import Derived.Test.YteclokkdgmacpaaKoc5
import Derived.Test.YteclokkdgmacpaaKoc6
import Derived.Test.YteclokkdgmacpaaKoc8
import Derived.Test.YteclokkdgmacpaaYa7
namespace Go.Proofs.Yteclokkdgmacpaa
open Go.RowKit
set_option linter.unusedSimpArgs false
set_option linter.unusedVariables false
set_option linter.constructorNameAsVariable false
set_option maxRecDepth 100000
set_option maxHeartbeats 40000000
theorem hc_progress_Prove (g:Int×(List (Int×Int×Int×Bool))) (claim:Int) (thread:Int) (ranks:List Int) {r:Bool×Int} (h:progress_Prove g claim thread ranks=some r):HC Try.prog 33 [] [.agg [.ii g.1,.sl Y7 g.2],.ii claim,.ii thread,.sl (.int .i64) ranks] [] (.tup [.bool r.1,.ii r.2]):=by
 unfold progress_Prove at h
 refine zH Try.func33 [.tmp 8,.tmp 9] 36 ?_
 refine zo ?_
 refine zB [(1,.ii claim),(2,.ii thread),(3,.sl (.int .i64) ranks),(4,.bp 4 0)] [(4,.box 24 [.ii g.1,.sl Y7 g.2])] ?_
 refine zo ?_
 refine zS 3 [(3,.sl (.int .i64) ranks),(15,.agg [.ii g.1,.sl Y7 g.2]),(16,.ii claim),(17,.ii thread)] [] ?_
 obtain ⟨v0,hv1,h⟩:=zw h
 rcases v0 with v0_2|v0_3|v0_4|v0_5
 ·try simp only at h
  refine zC [] [] (hc_progress_statementOf_a0 g claim thread hv1) [(3,.sl (.int .i64) ranks),(18,.tup [.agg [.ii 0,.cv (.slice none 0 0),.cv (.nilFunc),.cv (.nilFunc)],.ii v0_2])] [] ?_
  refine zS 5 [(3,.sl (.int .i64) ranks),(10,.bp 10 0),(20,.ii v0_2)] [(10,.box 85 [.ii 0,.cv (.slice none 0 0),.cv (.nilFunc),.cv (.nilFunc)])] ?_
  refine zB [(3,.sl (.int .i64) ranks),(10,.bp 10 0),(11,.ii v0_2)] [(10,.box 85 [.ii 0,.cv (.slice none 0 0),.cv (.nilFunc),.cv (.nilFunc)])] ?_
  refine AW.seq ?_
  refine zo ?_
  refine zB [(3,.sl (.int .i64) ranks),(10,.bp 10 0),(11,.ii v0_2),(22,.bool (!(decide (v0_2=0))))] [(10,.box 85 [.ii 0,.cv (.slice none 0 0),.cv (.nilFunc),.cv (.nilFunc)])] ?_
  refine zQ h (fun hb2 h=>?_) (fun hb2 h=>?_)
  ·refine zo ?_
   refine zB [(8,.bool false),(9,.ii v0_2)] [] ?_
   refine zr ?_
   obtain rfl:=zj h
   exact zR [] [] []
  refine zk ?_
  refine AW.seq ?_
  refine zo ?_
  cases h
 ·try simp only at h
  refine zC [] [] (hc_progress_statementOf_a1 g claim thread hv1) [(3,.sl (.int .i64) ranks),(18,.tup [.agg [.ii v0_3.1,.sl Y7 v0_3.2,.fn (.func 94) [] [],.fn (.func 94) [] []],.ii 0])] [] ?_
  refine zS 5 [(3,.sl (.int .i64) ranks),(10,.bp 10 0),(20,.ii 0)] [(10,.box 85 [.ii v0_3.1,.sl Y7 v0_3.2,.fn (.func 94) [] [],.fn (.func 94) [] []])] ?_
  refine zB [(3,.sl (.int .i64) ranks),(10,.bp 10 0),(11,.ii 0)] [(10,.box 85 [.ii v0_3.1,.sl Y7 v0_3.2,.fn (.func 94) [] [],.fn (.func 94) [] []])] ?_
  refine AW.seq ?_
  refine zo ?_
  refine zB [(3,.sl (.int .i64) ranks),(10,.bp 10 0),(11,.ii 0),(22,.bool false)] [(10,.box 85 [.ii v0_3.1,.sl Y7 v0_3.2,.fn (.func 94) [] [],.fn (.func 94) [] []])] ?_
  refine AW.cond (b:=false) rfl (fun hb3=>by cases hb3) (fun _=>?_)
  refine zk ?_
  refine AW.seq ?_
  refine zo ?_
  refine zS 2 [(3,.sl (.int .i64) ranks),(10,.bp 10 0),(24,.agg [.ii v0_3.1,.sl Y7 v0_3.2,.fn (.func 94) [] [],.fn (.func 94) [] []]),(25,.sl (.int .i64) ranks)] [(10,.box 85 [.ii v0_3.1,.sl Y7 v0_3.2,.fn (.func 94) [] [],.fn (.func 94) [] []])] ?_
  obtain ⟨v0_6,hv4,h⟩:=zw h
  refine zC [] [] (hc_progress_statement_isRanks v0_3.1 v0_3.2 ranks hv4) [(3,.sl (.int .i64) ranks),(10,.bp 10 0),(26,.bool v0_6)] [(10,.box 85 [.ii v0_3.1,.sl Y7 v0_3.2,.fn (.func 94) [] [],.fn (.func 94) [] []])] ?_
  refine zB [(3,.sl (.int .i64) ranks),(10,.bp 10 0),(27,.bool (!v0_6))] [(10,.box 85 [.ii v0_3.1,.sl Y7 v0_3.2,.fn (.func 94) [] [],.fn (.func 94) [] []])] ?_
  refine zQ h (fun hb5 h=>?_) (fun hb5 h=>?_)
  ·refine zo ?_
   refine zB [(8,.bool false),(9,.ii 2)] [] ?_
   refine zr ?_
   obtain rfl:=zj h
   exact zR [] [] []
  refine zk ?_
  refine zo ?_
  refine zS 2 [(29,.agg [.ii v0_3.1,.sl Y7 v0_3.2,.fn (.func 94) [] [],.fn (.func 94) [] []]),(30,.sl (.int .i64) ranks)] [] ?_
  obtain ⟨v0_7,hv6,h⟩:=zw h
  refine zC [] [] (hc_progress_statement_broken v0_3.1 v0_3.2 ranks hv6) [(31,.tup [.agg [.ii v0_7.1,.ii v0_7.2.1,.ii v0_7.2.2.1,.bool v0_7.2.2.2.1],.bool v0_7.2.2.2.2])] [] ?_
  refine zS 5 [(33,.bool v0_7.2.2.2.2)] [] ?_
  refine zB [(13,.bool v0_7.2.2.2.2)] [] ?_
  refine zo ?_
  refine zB [(8,.bool (!v0_7.2.2.2.2)),(9,.ii 0)] [] ?_
  refine AW.ret ?_
  obtain rfl:=zj h
  exact zR [] [] []
 ·try simp only at h
  refine zC [] [] (hc_progress_statementOf_a2 g claim thread hv1) [(3,.sl (.int .i64) ranks),(18,.tup [.agg [.ii v0_4.1,.sl Y7 v0_4.2,.fn (.func 96) [] [.bp 28000 0],.fn (.func 95) [] [.bp 28000 0]],.ii 0])] [(28000,.box 3 [.ii thread])] ?_
  refine AO.weaken (s':=⟨fr [(3,.sl (.int .i64) ranks),(18,.tup [.agg [.ii v0_4.1,.sl Y7 v0_4.2,.fn (.func 96) [] [.dp (.int .i64) thread 0],.fn (.func 95) [] [.dp (.int .i64) thread 0]],.ii 0])],hpGet [],gt⟩) (Wk.boxes [28000] rfl rfl (by (simp only [go_sem])<;>(with_reducible and_intros)<;>first|assumption|rfl|omega|(unfold maxLen; omega)) (by (simp only [go_sem])<;>(with_reducible and_intros)<;>first|assumption|rfl|omega|(unfold maxLen; omega))) ?_
  refine zS 5 [(3,.sl (.int .i64) ranks),(10,.bp 10 0),(20,.ii 0)] [(10,.box 85 [.ii v0_4.1,.sl Y7 v0_4.2,.fn (.func 96) [] [.dp (.int .i64) thread 0],.fn (.func 95) [] [.dp (.int .i64) thread 0]])] ?_
  refine zB [(3,.sl (.int .i64) ranks),(10,.bp 10 0),(11,.ii 0)] [(10,.box 85 [.ii v0_4.1,.sl Y7 v0_4.2,.fn (.func 96) [] [.dp (.int .i64) thread 0],.fn (.func 95) [] [.dp (.int .i64) thread 0]])] ?_
  refine AW.seq ?_
  refine zo ?_
  refine zB [(3,.sl (.int .i64) ranks),(10,.bp 10 0),(11,.ii 0),(22,.bool false)] [(10,.box 85 [.ii v0_4.1,.sl Y7 v0_4.2,.fn (.func 96) [] [.dp (.int .i64) thread 0],.fn (.func 95) [] [.dp (.int .i64) thread 0]])] ?_
  refine AW.cond (b:=false) rfl (fun hb7=>by cases hb7) (fun _=>?_)
  refine zk ?_
  refine AW.seq ?_
  refine zo ?_
  refine zS 2 [(3,.sl (.int .i64) ranks),(10,.bp 10 0),(24,.agg [.ii v0_4.1,.sl Y7 v0_4.2,.fn (.func 96) [] [.dp (.int .i64) thread 0],.fn (.func 95) [] [.dp (.int .i64) thread 0]]),(25,.sl (.int .i64) ranks)] [(10,.box 85 [.ii v0_4.1,.sl Y7 v0_4.2,.fn (.func 96) [] [.dp (.int .i64) thread 0],.fn (.func 95) [] [.dp (.int .i64) thread 0]])] ?_
  obtain ⟨v0_8,hv8,h⟩:=zw h
  refine zC [] [] (hc_progress_statement_isRanks_2 v0_4.1 v0_4.2 thread thread ranks hv8) [(3,.sl (.int .i64) ranks),(10,.bp 10 0),(26,.bool v0_8)] [(10,.box 85 [.ii v0_4.1,.sl Y7 v0_4.2,.fn (.func 96) [] [.dp (.int .i64) thread 0],.fn (.func 95) [] [.dp (.int .i64) thread 0]])] ?_
  refine zB [(3,.sl (.int .i64) ranks),(10,.bp 10 0),(27,.bool (!v0_8))] [(10,.box 85 [.ii v0_4.1,.sl Y7 v0_4.2,.fn (.func 96) [] [.dp (.int .i64) thread 0],.fn (.func 95) [] [.dp (.int .i64) thread 0]])] ?_
  refine zQ h (fun hb9 h=>?_) (fun hb9 h=>?_)
  ·refine zo ?_
   refine zB [(8,.bool false),(9,.ii 2)] [] ?_
   refine zr ?_
   obtain rfl:=zj h
   exact zR [] [] []
  refine zk ?_
  refine zo ?_
  refine zS 2 [(29,.agg [.ii v0_4.1,.sl Y7 v0_4.2,.fn (.func 96) [] [.dp (.int .i64) thread 0],.fn (.func 95) [] [.dp (.int .i64) thread 0]]),(30,.sl (.int .i64) ranks)] [] ?_
  obtain ⟨v0_9,hv10,h⟩:=zw h
  refine zC [] [] (hc_progress_statement_broken_2 v0_4.1 v0_4.2 thread thread ranks hv10) [(31,.tup [.agg [.ii v0_9.1,.ii v0_9.2.1,.ii v0_9.2.2.1,.bool v0_9.2.2.2.1],.bool v0_9.2.2.2.2])] [] ?_
  refine zS 5 [(33,.bool v0_9.2.2.2.2)] [] ?_
  refine zB [(13,.bool v0_9.2.2.2.2)] [] ?_
  refine zo ?_
  refine zB [(8,.bool (!v0_9.2.2.2.2)),(9,.ii 0)] [] ?_
  refine AW.ret ?_
  obtain rfl:=zj h
  exact zR [] [] []
 try simp only at h
 refine zC [] [] (hc_progress_statementOf_a3 g claim thread hv1) [(3,.sl (.int .i64) ranks),(18,.tup [.agg [.ii v0_5.1,.sl Y7 v0_5.2,.fn (.func 95) [] [.bp 28000 0],.fn (.func 95) [] [.bp 28000 0]],.ii 0])] [(28000,.box 3 [.ii thread])] ?_
 refine AO.weaken (s':=⟨fr [(3,.sl (.int .i64) ranks),(18,.tup [.agg [.ii v0_5.1,.sl Y7 v0_5.2,.fn (.func 95) [] [.dp (.int .i64) thread 0],.fn (.func 95) [] [.dp (.int .i64) thread 0]],.ii 0])],hpGet [],gt⟩) (Wk.boxes [28000] rfl rfl (by (simp only [go_sem])<;>(with_reducible and_intros)<;>first|assumption|rfl|omega|(unfold maxLen; omega)) (by (simp only [go_sem])<;>(with_reducible and_intros)<;>first|assumption|rfl|omega|(unfold maxLen; omega))) ?_
 refine zS 5 [(3,.sl (.int .i64) ranks),(10,.bp 10 0),(20,.ii 0)] [(10,.box 85 [.ii v0_5.1,.sl Y7 v0_5.2,.fn (.func 95) [] [.dp (.int .i64) thread 0],.fn (.func 95) [] [.dp (.int .i64) thread 0]])] ?_
 refine zB [(3,.sl (.int .i64) ranks),(10,.bp 10 0),(11,.ii 0)] [(10,.box 85 [.ii v0_5.1,.sl Y7 v0_5.2,.fn (.func 95) [] [.dp (.int .i64) thread 0],.fn (.func 95) [] [.dp (.int .i64) thread 0]])] ?_
 refine AW.seq ?_
 refine zo ?_
 refine zB [(3,.sl (.int .i64) ranks),(10,.bp 10 0),(11,.ii 0),(22,.bool false)] [(10,.box 85 [.ii v0_5.1,.sl Y7 v0_5.2,.fn (.func 95) [] [.dp (.int .i64) thread 0],.fn (.func 95) [] [.dp (.int .i64) thread 0]])] ?_
 refine AW.cond (b:=false) rfl (fun hb11=>by cases hb11) (fun _=>?_)
 refine zk ?_
 refine AW.seq ?_
 refine zo ?_
 refine zS 2 [(3,.sl (.int .i64) ranks),(10,.bp 10 0),(24,.agg [.ii v0_5.1,.sl Y7 v0_5.2,.fn (.func 95) [] [.dp (.int .i64) thread 0],.fn (.func 95) [] [.dp (.int .i64) thread 0]]),(25,.sl (.int .i64) ranks)] [(10,.box 85 [.ii v0_5.1,.sl Y7 v0_5.2,.fn (.func 95) [] [.dp (.int .i64) thread 0],.fn (.func 95) [] [.dp (.int .i64) thread 0]])] ?_
 obtain ⟨v0_10,hv12,h⟩:=zw h
 refine zC [] [] (hc_progress_statement_isRanks_3 v0_5.1 v0_5.2 thread thread ranks hv12) [(3,.sl (.int .i64) ranks),(10,.bp 10 0),(26,.bool v0_10)] [(10,.box 85 [.ii v0_5.1,.sl Y7 v0_5.2,.fn (.func 95) [] [.dp (.int .i64) thread 0],.fn (.func 95) [] [.dp (.int .i64) thread 0]])] ?_
 refine zB [(3,.sl (.int .i64) ranks),(10,.bp 10 0),(27,.bool (!v0_10))] [(10,.box 85 [.ii v0_5.1,.sl Y7 v0_5.2,.fn (.func 95) [] [.dp (.int .i64) thread 0],.fn (.func 95) [] [.dp (.int .i64) thread 0]])] ?_
 refine zQ h (fun hb13 h=>?_) (fun hb13 h=>?_)
 ·refine zo ?_
  refine zB [(8,.bool false),(9,.ii 2)] [] ?_
  refine zr ?_
  obtain rfl:=zj h
  exact zR [] [] []
 refine zk ?_
 refine zo ?_
 refine zS 2 [(29,.agg [.ii v0_5.1,.sl Y7 v0_5.2,.fn (.func 95) [] [.dp (.int .i64) thread 0],.fn (.func 95) [] [.dp (.int .i64) thread 0]]),(30,.sl (.int .i64) ranks)] [] ?_
 obtain ⟨v0_11,hv14,h⟩:=zw h
 refine zC [] [] (hc_progress_statement_broken_3 v0_5.1 v0_5.2 thread thread ranks hv14) [(31,.tup [.agg [.ii v0_11.1,.ii v0_11.2.1,.ii v0_11.2.2.1,.bool v0_11.2.2.2.1],.bool v0_11.2.2.2.2])] [] ?_
 refine zS 5 [(33,.bool v0_11.2.2.2.2)] [] ?_
 refine zB [(13,.bool v0_11.2.2.2.2)] [] ?_
 refine zo ?_
 refine zB [(8,.bool (!v0_11.2.2.2.2)),(9,.ii 0)] [] ?_
 refine AW.ret ?_
 obtain rfl:=zj h
 exact zR [] [] []
theorem hc_linealref07_Prove (g:Int×(List (Int×Int×Int×Bool))) (claim:Int) (thread:Int) (l:List Int) {r:Bool×Int} (h:linealref07_Prove g claim thread l=some r):HC Try.prog 34 [] [.agg [.ii g.1,.sl Y7 g.2],.ii claim,.ii thread,.sl (.int .i64) l] [] (.tup [.bool r.1,.ii r.2]):=by
 unfold linealref07_Prove at h
 refine zH Try.func34 [.tmp 8,.tmp 9] 83 ?_
 refine zo ?_
 refine zB [(1,.ii claim),(2,.ii thread),(3,.sl (.int .i64) l),(4,.bp 4 0)] [(4,.box 24 [.ii g.1,.sl Y7 g.2])] ?_
 refine AW.seq ?_
 refine zo ?_
 refine zS 3 [(1,.ii claim),(2,.ii thread),(3,.sl (.int .i64) l),(4,.bp 4 0),(18,.agg [.ii g.1,.sl Y7 g.2]),(19,.ii claim),(20,.ii thread)] [(4,.box 24 [.ii g.1,.sl Y7 g.2])] ?_
 obtain ⟨v0,hv1,h⟩:=zw h
 refine zC [] [] (hc_linealref07_asked g claim thread hv1) [(1,.ii claim),(2,.ii thread),(3,.sl (.int .i64) l),(4,.bp 4 0),(21,.ii v0)] [(4,.box 24 [.ii g.1,.sl Y7 g.2])] ?_
 refine zB [(1,.ii claim),(2,.ii thread),(3,.sl (.int .i64) l),(4,.bp 4 0),(10,.ii v0)] [(4,.box 24 [.ii g.1,.sl Y7 g.2])] ?_
 refine zo ?_
 refine zB [(1,.ii claim),(2,.ii thread),(3,.sl (.int .i64) l),(4,.bp 4 0),(10,.ii v0),(23,.bool (!(decide (v0=0))))] [(4,.box 24 [.ii g.1,.sl Y7 g.2])] ?_
 refine zQ h (fun hb2 h=>?_) (fun hb2 h=>?_)
 ·refine zo ?_
  refine zB [(8,.bool false),(9,.ii v0)] [] ?_
  refine zr ?_
  obtain rfl:=zj h
  exact zR [] [] []
 refine zk ?_
 refine AW.seq ?_
 refine zo ?_
 refine zB [(1,.ii claim),(2,.ii thread),(3,.sl (.int .i64) l),(4,.bp 4 0),(29,.bool (!(decide ((l.length:Int)=g.1))))] [(4,.box 24 [.ii g.1,.sl Y7 g.2])] ?_
 refine zQ h (fun hb3 h=>?_) (fun hb3 h=>?_)
 ·refine zo ?_
  refine zB [(8,.bool false),(9,.ii 2)] [] ?_
  refine zr ?_
  obtain rfl:=zj h
  exact zR [] [] []
 refine zk ?_
 refine AW.have1 (fun _:Unit=>linealref07_Prove_k1 g claim thread l=some r) (fun _=>⟨fr [(1,.ii claim),(2,.ii thread),(3,.sl (.int .i64) l),(4,.bp 4 0)],hpGet [(4,.box 24 [.ii g.1,.sl Y7 g.2])],gt⟩) (fun _ h=>?_) (fun hk_linealref07_Prove_k1=>?_)
 ·as_aux_lemma =>
   unfold linealref07_Prove_k1 at h
   refine zo ?_
   refine zS 1 [(1,.ii claim),(2,.ii thread),(3,.sl (.int .i64) l),(4,.bp 4 0),(43,.agg [.ii g.1,.sl Y7 g.2])] [(4,.box 24 [.ii g.1,.sl Y7 g.2])] ?_
   obtain ⟨v0_2,hv4,h⟩:=zw h
   refine zC [] [] (hc_linealref07_reached g hv4) [(1,.ii claim),(2,.ii thread),(3,.sl (.int .i64) l),(4,.bp 4 0),(44,.own 54000)] [(4,.box 24 [.ii g.1,.sl Y7 g.2]),(54000,.arr 4 .bool v0_2)] ?_
   refine zB [(1,.ii claim),(2,.ii thread),(3,.sl (.int .i64) l),(4,.bp 4 0),(13,.own 54000)] [(4,.box 24 [.ii g.1,.sl Y7 g.2]),(54000,.arr 4 .bool v0_2)] ?_
   refine AW.have1 (fun _:Unit=>linealref07_Prove_k2=some r) (fun _=>⟨fr [],hpGet [],gt⟩) (fun _ h=>?_) (fun hk_linealref07_Prove_k2=>?_)
   ·as_aux_lemma =>
     unfold linealref07_Prove_k2 at h
     refine zo ?_
     refine zB [(8,.bool true),(9,.ii 0)] [] ?_
     refine AW.ret ?_
     obtain rfl:=zj h
     exact zR [] [] []
   refine AW.seq ?_
   refine zo ?_
   refine zB [(1,.ii claim),(2,.ii thread),(3,.sl (.int .i64) l),(13,.own 54000),(46,.sl Y7 g.2),(47,.ii (g.2.length:Int)),(48,.ii 0)] [(54000,.arr 4 .bool v0_2)] ?_
   refine AW.block ?_
   obtain ⟨rv9,hw5,ho6⟩:=zw h
   refine AW.loopO (linealref07_Prove_b2 g claim thread l v0_2) (fun st2=>⟨fr [(1,.ii claim),(2,.ii thread),(3,.sl (.int .i64) l),(13,.own 54000),(46,.sl Y7 g.2),(47,.ii (g.2.length:Int)),(48,.ii st2)],hpGet [(54000,.arr 4 .bool v0_2)],gt⟩) 0 hw5 (zL [] [] []) ?_
   as_aux_lemma =>
    intro st2 x8 h hd7
    unfold linealref07_Prove_b2 at h
    refine zo ?_
    refine zB [(1,.ii claim),(2,.ii thread),(3,.sl (.int .i64) l),(13,.own 54000),(46,.sl Y7 g.2),(47,.ii (g.2.length:Int)),(48,.ii st2),(49,.bool (decide (st2<(g.2.length:Int))))] [(54000,.arr 4 .bool v0_2)] ?_
    refine AW.seq ?_
    refine zQ h (fun hb10 h=>?_) (fun hb10 h=>?_)
    ·refine zk ?_
     refine AW.seq ?_
     refine AW.block ?_
     refine zo ?_
     obtain ⟨c11,h⟩:=ck_some.1 h
     obtain ⟨c12,h⟩:=ck_some.1 h
     refine zB [(1,.ii claim),(2,.ii thread),(3,.sl (.int .i64) l),(13,.own 54000),(15,.bp 15 0),(46,.sl Y7 g.2),(47,.ii (g.2.length:Int)),(48,.ii st2)] [(15,.box 61 [.ii (g.2.getD st2.toNat (0,0,0,false)).1,.ii (g.2.getD st2.toNat (0,0,0,false)).2.1,.ii (g.2.getD st2.toNat (0,0,0,false)).2.2.1,.bool (g.2.getD st2.toNat (0,0,0,false)).2.2.2]),(54000,.arr 4 .bool v0_2)] ?_
     refine zo ?_
     refine zS 3 [(1,.ii claim),(2,.ii thread),(3,.sl (.int .i64) l),(13,.own 54000),(15,.bp 15 0),(46,.sl Y7 g.2),(47,.ii (g.2.length:Int)),(48,.ii st2),(53,.agg [.ii (g.2.getD st2.toNat (0,0,0,false)).1,.ii (g.2.getD st2.toNat (0,0,0,false)).2.1,.ii (g.2.getD st2.toNat (0,0,0,false)).2.2.1,.bool (g.2.getD st2.toNat (0,0,0,false)).2.2.2]),(54,.ii claim),(55,.ii thread)] [(15,.box 61 [.ii (g.2.getD st2.toNat (0,0,0,false)).1,.ii (g.2.getD st2.toNat (0,0,0,false)).2.1,.ii (g.2.getD st2.toNat (0,0,0,false)).2.2.1,.bool (g.2.getD st2.toNat (0,0,0,false)).2.2.2]),(54000,.arr 4 .bool v0_2)] ?_
     obtain ⟨v0_3,hv13,h⟩:=zw h
     refine zC [] [] (hc_linealref07_falls (g.2.getD st2.toNat (0,0,0,false)) claim thread hv13) [(1,.ii claim),(2,.ii thread),(3,.sl (.int .i64) l),(13,.own 54000),(15,.bp 15 0),(46,.sl Y7 g.2),(47,.ii (g.2.length:Int)),(48,.ii st2),(56,.tup [.ii v0_3.1,.bool v0_3.2])] [(15,.box 61 [.ii (g.2.getD st2.toNat (0,0,0,false)).1,.ii (g.2.getD st2.toNat (0,0,0,false)).2.1,.ii (g.2.getD st2.toNat (0,0,0,false)).2.2.1,.bool (g.2.getD st2.toNat (0,0,0,false)).2.2.2]),(54000,.arr 4 .bool v0_2)] ?_
     refine zB [(1,.ii claim),(2,.ii thread),(3,.sl (.int .i64) l),(13,.own 54000),(15,.bp 15 0),(16,.ii v0_3.1),(17,.bool v0_3.2),(46,.sl Y7 g.2),(47,.ii (g.2.length:Int)),(48,.ii st2)] [(15,.box 61 [.ii (g.2.getD st2.toNat (0,0,0,false)).1,.ii (g.2.getD st2.toNat (0,0,0,false)).2.1,.ii (g.2.getD st2.toNat (0,0,0,false)).2.2.1,.bool (g.2.getD st2.toNat (0,0,0,false)).2.2.2]),(54000,.arr 4 .bool v0_2)] ?_
     refine AW.seq ?_
     refine AW.draw tab_ok mixed_ok [] [] (by decide) (lex_fast (by kernel_rfl)) ?_
     as_aux_lemma =>
      refine adops_cut 2 (fun K' hK14=>?_)
      try dsimp only [y1,y2,y3,y4]
      simp only [go_sem,hb2,hb3,hb10]
      repeat with_reducible refine zN ?_
      refine hK14 _ ?_
      as_aux_lemma =>
       rcases zI h with ⟨hb15,h⟩|⟨hb15,h⟩
       ·simp only [hb15]
        as_aux_lemma =>
         obtain ⟨c17,h⟩:=ck_some.1 h
         obtain ⟨c18,h⟩:=ck_some.1 h
         refine adops_cut 6 (fun K' hK16=>?_)
         try dsimp only [y1,y2,y3,y4]
         simp only [go_sem,hb2,hb3,hb10,hb15]
         repeat with_reducible refine zN ?_
         refine hK16 _ ?_
         as_aux_lemma =>
          refine adops_cut 1 (fun K' hK19=>?_)
          try dsimp only [y1,y2,y3,y4]
          simp only [go_sem,hb2,hb3,hb10,hb15]
          repeat with_reducible refine zN ?_
          refine hK19 _ ?_
          as_aux_lemma =>
           rcases zI h with ⟨hb20,h⟩|⟨hb20,h⟩
           ·simp only [hb20]
            as_aux_lemma =>
             obtain ⟨c22,h⟩:=ck_some.1 h
             obtain ⟨c23,h⟩:=ck_some.1 h
             refine adops_cut 6 (fun K' hK21=>?_)
             try dsimp only [y1,y2,y3,y4]
             simp only [go_sem,hb2,hb3,hb10,hb15,hb20]
             repeat with_reducible refine zN ?_
             refine hK21 _ ?_
             as_aux_lemma =>
              obtain ⟨c25,h⟩:=ck_some.1 h
              obtain ⟨c26,h⟩:=ck_some.1 h
              obtain ⟨c27,h⟩:=ck_some.1 h
              refine adops_cut 6 (fun K' hK24=>?_)
              try dsimp only [y1,y2,y3,y4]
              simp only [go_sem,hb2,hb3,hb10,hb15,hb20]
              repeat with_reducible refine zN ?_
              refine hK24 _ ?_
              as_aux_lemma =>
               refine adops_cut 2 (fun K' hK28=>?_)
               try dsimp only [y1,y2,y3,y4]
               simp only [go_sem,hb2,hb3,hb10,hb15,hb20]
               repeat with_reducible refine zN ?_
               refine hK28 _ ?_
               refine adops_nil ?_
               refine athen_n ?_
               refine zV [(1,.ii claim),(2,.ii thread),(3,.sl (.int .i64) l),(13,.own 54000),(46,.sl Y7 g.2),(47,.ii (g.2.length:Int)),(48,.ii st2),(81,.bool (decide ((l.getD (g.2.getD st2.toNat (0,0,0,false)).1.toNat 0)<((l.getD (g.2.getD st2.toNat (0,0,0,false)).2.2.1.toNat 0)+v0_3.1))))] [(54000,.arr 4 .bool v0_2)] gt ?_
               as_aux_lemma =>
                refine zQ h (fun hb29 h=>?_) (fun hb29 h=>?_)
                ·refine zo ?_
                 refine zB [(8,.bool false),(9,.ii 0)] [] ?_
                 refine AW.ret ?_
                 refine ablock_r ?_
                 refine athen_r ?_
                 obtain rfl:=zj h
                 rw [← hd7 _ rfl] at ho6
                 have h:=ho6
                 try simp only at h
                 refine athen_r ?_
                 refine ablock_r ?_
                 refine athen_r ?_
                 obtain rfl:=zj h
                 exact zR [] [] []
                refine zm ?_
                refine athen_n ?_
                refine AW.ops ?_
                obtain ⟨c30,h⟩:=ck_some.1 h
                refine zA [(1,.ii claim),(2,.ii thread),(3,.sl (.int .i64) l),(13,.own 54000),(46,.sl Y7 g.2),(47,.ii (g.2.length:Int)),(48,.ii (st2+1))] [(54000,.arr 4 .bool v0_2)] ?_
                obtain rfl:=zj h
                exact ⟨_,rfl,zL [] [] []⟩
           simp only [hb20]
           as_aux_lemma =>
            refine adops_cut 4 (fun K' hK31=>?_)
            try dsimp only [y1,y2,y3,y4]
            simp only [go_sem,hb2,hb3,hb10,hb15,hb20]
            repeat with_reducible refine zN ?_
            refine hK31 _ ?_
            as_aux_lemma =>
             refine adops_cut 4 (fun K' hK32=>?_)
             try dsimp only [y1,y2,y3,y4]
             simp only [go_sem,hb2,hb3,hb10,hb15,hb20]
             repeat with_reducible refine zN ?_
             refine hK32 _ ?_
             as_aux_lemma =>
              refine adops_cut 4 (fun K' hK33=>?_)
              try dsimp only [y1,y2,y3,y4]
              simp only [go_sem,hb2,hb3,hb10,hb15,hb20]
              repeat with_reducible refine zN ?_
              refine hK33 _ ?_
              as_aux_lemma =>
               refine adops_cut 2 (fun K' hK34=>?_)
               try dsimp only [y1,y2,y3,y4]
               simp only [go_sem,hb2,hb3,hb10,hb15,hb20]
               repeat with_reducible refine zN ?_
               refine hK34 _ ?_
               refine adops_nil ?_
               refine athen_n ?_
               refine zV [(1,.ii claim),(2,.ii thread),(3,.sl (.int .i64) l),(13,.own 54000),(46,.sl Y7 g.2),(47,.ii (g.2.length:Int)),(48,.ii st2),(81,.bool false)] [(54000,.arr 4 .bool v0_2)] gt ?_
               as_aux_lemma =>
                refine AW.cond (b:=false) rfl (fun hb35=>by cases hb35) (fun _=>?_)
                refine zm ?_
                refine athen_n ?_
                refine AW.ops ?_
                obtain ⟨c36,h⟩:=ck_some.1 h
                refine zA [(1,.ii claim),(2,.ii thread),(3,.sl (.int .i64) l),(13,.own 54000),(46,.sl Y7 g.2),(47,.ii (g.2.length:Int)),(48,.ii (st2+1))] [(54000,.arr 4 .bool v0_2)] ?_
                obtain rfl:=zj h
                exact ⟨_,rfl,zL [] [] []⟩
       simp only [hb15]
       as_aux_lemma =>
        refine adops_cut 4 (fun K' hK37=>?_)
        try dsimp only [y1,y2,y3,y4]
        simp only [go_sem,hb2,hb3,hb10,hb15]
        repeat with_reducible refine zN ?_
        refine hK37 _ ?_
        as_aux_lemma =>
         refine adops_cut 6 (fun K' hK38=>?_)
         try dsimp only [y1,y2,y3,y4]
         simp only [go_sem,hb2,hb3,hb10,hb15]
         repeat with_reducible refine zN ?_
         refine hK38 _ ?_
         as_aux_lemma =>
          refine adops_cut 4 (fun K' hK39=>?_)
          try dsimp only [y1,y2,y3,y4]
          simp only [go_sem,hb2,hb3,hb10,hb15]
          repeat with_reducible refine zN ?_
          refine hK39 _ ?_
          as_aux_lemma =>
           refine adops_cut 4 (fun K' hK40=>?_)
           try dsimp only [y1,y2,y3,y4]
           simp only [go_sem,hb2,hb3,hb10,hb15]
           repeat with_reducible refine zN ?_
           refine hK40 _ ?_
           as_aux_lemma =>
            refine adops_cut 3 (fun K' hK41=>?_)
            try dsimp only [y1,y2,y3,y4]
            simp only [go_sem,hb2,hb3,hb10,hb15]
            repeat with_reducible refine zN ?_
            refine hK41 _ ?_
            refine adops_nil ?_
            refine athen_n ?_
            refine zV [(1,.ii claim),(2,.ii thread),(3,.sl (.int .i64) l),(13,.own 54000),(46,.sl Y7 g.2),(47,.ii (g.2.length:Int)),(48,.ii st2),(81,.bool false)] [(54000,.arr 4 .bool v0_2)] gt ?_
            as_aux_lemma =>
             refine AW.cond (b:=false) rfl (fun hb42=>by cases hb42) (fun _=>?_)
             refine zm ?_
             refine athen_n ?_
             refine AW.ops ?_
             obtain ⟨c43,h⟩:=ck_some.1 h
             refine zA [(1,.ii claim),(2,.ii thread),(3,.sl (.int .i64) l),(13,.own 54000),(46,.sl Y7 g.2),(47,.ii (g.2.length:Int)),(48,.ii (st2+1))] [(54000,.arr 4 .bool v0_2)] ?_
             obtain rfl:=zj h
             exact ⟨_,rfl,zL [] [] []⟩
    refine AW.exit ?_
    refine athen_e ?_
    obtain rfl:=zj h
    rw [← hd7 _ rfl] at ho6
    have h:=ho6
    try simp only at h
    refine athen_e ?_
    refine ablock_s ?_
    refine athen_n ?_
    exact AW.weaken (zL [] [] []) (hk_linealref07_Prove_k2 () h)
 refine AW.seq ?_
 refine zo ?_
 refine zB [(1,.ii claim),(2,.ii thread),(3,.sl (.int .i64) l),(4,.bp 4 0),(30,.sl (.int .i64) l),(31,.ii (l.length:Int)),(32,.ii 0)] [(4,.box 24 [.ii g.1,.sl Y7 g.2])] ?_
 refine AW.block ?_
 obtain ⟨rv48,hw44,ho45⟩:=zw h
 refine AW.loopO (linealref07_Prove_b1 l) (fun st1=>⟨fr [(1,.ii claim),(2,.ii thread),(3,.sl (.int .i64) l),(4,.bp 4 0),(30,.sl (.int .i64) l),(31,.ii (l.length:Int)),(32,.ii st1)],hpGet [(4,.box 24 [.ii g.1,.sl Y7 g.2])],gt⟩) 0 hw44 (zL [] [] []) ?_
 as_aux_lemma =>
  intro st1 x47 h hd46
  unfold linealref07_Prove_b1 at h
  refine zo ?_
  refine zB [(1,.ii claim),(2,.ii thread),(3,.sl (.int .i64) l),(4,.bp 4 0),(30,.sl (.int .i64) l),(31,.ii (l.length:Int)),(32,.ii st1),(33,.bool (decide (st1<(l.length:Int))))] [(4,.box 24 [.ii g.1,.sl Y7 g.2])] ?_
  refine AW.seq ?_
  refine zQ h (fun hb49 h=>?_) (fun hb49 h=>?_)
  ·refine zk ?_
   refine AW.seq ?_
   refine AW.block ?_
   refine zo ?_
   obtain ⟨c50,h⟩:=ck_some.1 h
   obtain ⟨c51,h⟩:=ck_some.1 h
   refine zB [(1,.ii claim),(2,.ii thread),(3,.sl (.int .i64) l),(4,.bp 4 0),(12,.ii (l.getD st1.toNat 0)),(30,.sl (.int .i64) l),(31,.ii (l.length:Int)),(32,.ii st1)] [(4,.box 24 [.ii g.1,.sl Y7 g.2])] ?_
   refine zo ?_
   refine zS 3 [(1,.ii claim),(2,.ii thread),(3,.sl (.int .i64) l),(4,.bp 4 0),(12,.ii (l.getD st1.toNat 0)),(30,.sl (.int .i64) l),(31,.ii (l.length:Int)),(32,.ii st1),(38,.bool (decide ((l.getD st1.toNat 0)<0)))] [(4,.box 24 [.ii g.1,.sl Y7 g.2])] ?_
   rcases zI h with ⟨hb52,h⟩|⟨hb52,h⟩
   ·refine zB [(1,.ii claim),(2,.ii thread),(3,.sl (.int .i64) l),(4,.bp 4 0),(30,.sl (.int .i64) l),(31,.ii (l.length:Int)),(32,.ii st1),(41,.bool true)] [(4,.box 24 [.ii g.1,.sl Y7 g.2])] ?_
    refine AW.cond (b:=true) rfl (fun _=>?_) (fun hb53=>by cases hb53)
    refine zo ?_
    refine zB [(8,.bool false),(9,.ii 2)] [] ?_
    refine AW.ret ?_
    refine ablock_r ?_
    refine athen_r ?_
    obtain rfl:=zj h
    rw [← hd46 _ rfl] at ho45
    have h:=ho45
    try simp only at h
    refine athen_r ?_
    refine ablock_r ?_
    refine athen_r ?_
    obtain rfl:=zj h
    exact zR [] [] []
   refine zB [(1,.ii claim),(2,.ii thread),(3,.sl (.int .i64) l),(4,.bp 4 0),(30,.sl (.int .i64) l),(31,.ii (l.length:Int)),(32,.ii st1),(41,.bool (decide (100<(l.getD st1.toNat 0))))] [(4,.box 24 [.ii g.1,.sl Y7 g.2])] ?_
   refine zQ h (fun hb54 h=>?_) (fun hb54 h=>?_)
   ·refine zo ?_
    refine zB [(8,.bool false),(9,.ii 2)] [] ?_
    refine AW.ret ?_
    refine ablock_r ?_
    refine athen_r ?_
    obtain rfl:=zj h
    rw [← hd46 _ rfl] at ho45
    have h:=ho45
    try simp only at h
    refine athen_r ?_
    refine ablock_r ?_
    refine athen_r ?_
    obtain rfl:=zj h
    exact zR [] [] []
   refine zm ?_
   refine athen_n ?_
   refine AW.ops ?_
   obtain ⟨c55,h⟩:=ck_some.1 h
   refine zA [(1,.ii claim),(2,.ii thread),(3,.sl (.int .i64) l),(4,.bp 4 0),(30,.sl (.int .i64) l),(31,.ii (l.length:Int)),(32,.ii (st1+1))] [(4,.box 24 [.ii g.1,.sl Y7 g.2])] ?_
   obtain rfl:=zj h
   exact ⟨_,rfl,zL [] [] []⟩
  refine AW.exit ?_
  refine athen_e ?_
  obtain rfl:=zj h
  rw [← hd46 _ rfl] at ho45
  have h:=ho45
  try simp only at h
  refine athen_e ?_
  refine ablock_s ?_
  refine athen_n ?_
  exact AW.weaken (zL [] [] []) (hk_linealref07_Prove_k1 () h)
theorem hc_progress_Everybody (g:Int×(List (Int×Int×Int×Bool))) {r:Bool×Int} (h:progress_Everybody g=some r):HC Try.prog 38 [] [.agg [.ii g.1,.sl Y7 g.2]] [] (.tup [.bool r.1,.ii r.2]):=by
 unfold progress_Everybody at h
 refine zH Try.func38 [.tmp 2,.tmp 3] 24 ?_
 refine zo ?_
 refine zB [(1,.bp 1 0)] [(1,.box 24 [.ii g.1,.sl Y7 g.2])] ?_
 refine AW.have1 (fun _:Unit=>progress_Everybody_k1=some r) (fun _=>⟨fr [],hpGet [],gt⟩) (fun _ h=>?_) (fun hk_progress_Everybody_k1=>?_)
 ·as_aux_lemma =>
   unfold progress_Everybody_k1 at h
   refine zo ?_
   refine zB [(2,.bool true),(3,.ii 0)] [] ?_
   refine AW.ret ?_
   obtain rfl:=zj h
   exact zR [] [] []
 refine AW.seq ?_
 refine zo ?_
 refine zB [(1,.bp 1 0),(7,.ii 0)] [(1,.box 24 [.ii g.1,.sl Y7 g.2])] ?_
 refine AW.block ?_
 obtain ⟨rv5,hw1,ho2⟩:=zw h
 refine AW.loopO (progress_Everybody_b1 g) (fun st1=>⟨fr [(1,.bp 1 0),(7,.ii st1)],hpGet [(1,.box 24 [.ii g.1,.sl Y7 g.2])],gt⟩) 0 hw1 (zL [] [] []) ?_
 as_aux_lemma =>
  intro st1 x4 h hd3
  unfold progress_Everybody_b1 at h
  refine zo ?_
  refine zB [(1,.bp 1 0),(7,.ii st1),(8,.bool (decide (st1<3)))] [(1,.box 24 [.ii g.1,.sl Y7 g.2])] ?_
  refine AW.seq ?_
  refine zQ h (fun hb6 h=>?_) (fun hb6 h=>?_)
  ·refine zk ?_
   refine AW.seq ?_
   refine AW.block ?_
   refine zo ?_
   refine zB [(1,.bp 1 0),(4,.ii st1),(7,.ii st1)] [(1,.box 24 [.ii g.1,.sl Y7 g.2])] ?_
   refine zo ?_
   refine zS 2 [(1,.bp 1 0),(7,.ii st1),(11,.agg [.ii g.1,.sl Y7 g.2]),(12,.ii st1)] [(1,.box 24 [.ii g.1,.sl Y7 g.2])] ?_
   obtain ⟨v0,hv7,h⟩:=zw h
   refine zC [] [] (hc_progress_Holds g 1 st1 hv7) [(1,.bp 1 0),(7,.ii st1),(13,.tup [.bool v0.1,.ii v0.2])] [(1,.box 24 [.ii g.1,.sl Y7 g.2])] ?_
   refine zB [(1,.bp 1 0),(5,.bool v0.1),(6,.ii v0.2),(7,.ii st1)] [(1,.box 24 [.ii g.1,.sl Y7 g.2])] ?_
   refine zo ?_
   refine zS 3 [(1,.bp 1 0),(5,.bool v0.1),(6,.ii v0.2),(7,.ii st1),(18,.bool (!(decide (v0.2=0))))] [(1,.box 24 [.ii g.1,.sl Y7 g.2])] ?_
   rcases zI h with ⟨hb8,h⟩|⟨hb8,h⟩
   ·refine zB [(1,.bp 1 0),(6,.ii v0.2),(7,.ii st1),(21,.bool true)] [(1,.box 24 [.ii g.1,.sl Y7 g.2])] ?_
    refine AW.cond (b:=true) rfl (fun _=>?_) (fun hb9=>by cases hb9)
    refine zo ?_
    refine zB [(2,.bool false),(3,.ii v0.2)] [] ?_
    refine AW.ret ?_
    refine ablock_r ?_
    refine athen_r ?_
    obtain rfl:=zj h
    rw [← hd3 _ rfl] at ho2
    have h:=ho2
    try simp only at h
    refine athen_r ?_
    refine ablock_r ?_
    refine athen_r ?_
    obtain rfl:=zj h
    exact zR [] [] []
   refine zB [(1,.bp 1 0),(6,.ii v0.2),(7,.ii st1),(21,.bool (!v0.1))] [(1,.box 24 [.ii g.1,.sl Y7 g.2])] ?_
   refine zQ h (fun hb10 h=>?_) (fun hb10 h=>?_)
   ·refine zo ?_
    refine zB [(2,.bool false),(3,.ii v0.2)] [] ?_
    refine AW.ret ?_
    refine ablock_r ?_
    refine athen_r ?_
    obtain rfl:=zj h
    rw [← hd3 _ rfl] at ho2
    have h:=ho2
    try simp only at h
    refine athen_r ?_
    refine ablock_r ?_
    refine athen_r ?_
    obtain rfl:=zj h
    exact zR [] [] []
   refine zm ?_
   refine athen_n ?_
   refine AW.ops ?_
   obtain ⟨c11,h⟩:=ck_some.1 h
   refine zA [(1,.bp 1 0),(7,.ii (st1+1))] [(1,.box 24 [.ii g.1,.sl Y7 g.2])] ?_
   obtain rfl:=zj h
   exact ⟨_,rfl,zL [] [] []⟩
  refine AW.exit ?_
  refine athen_e ?_
  obtain rfl:=zj h
  rw [← hd3 _ rfl] at ho2
  have h:=ho2
  try simp only at h
  refine athen_e ?_
  refine ablock_s ?_
  refine athen_n ?_
  exact AW.weaken (zL [] [] []) (hk_progress_Everybody_k1 () h)
theorem hc_progress_statement_isLasso_1 (move:Int) (a1:Int) (a1_2:List (Int×Int×Int×Bool)) {r:Unit} (h:progress_statement_isLasso_1 move a1 a1_2=some r):HC Try.prog 103 [(1000,.box 85 [.ii a1,.sl Y7 a1_2,.fn (.func 94) [] [],.fn (.func 94) [] []])] [.ii move,.bp 1000 0] [(1000,.box 85 [.ii a1,.sl Y7 a1_2,.fn (.func 94) [] [],.fn (.func 94) [] []])] (.bool (!(!(a1_2.getD move.toNat (0,0,0,false)).2.2.2))):=by
 unfold progress_statement_isLasso_1 at h
 refine zH Try.func103 [.tmp 3] 14 ?_
 refine zo ?_
 refine zB [(0,.ii move),(1,.bp 1000 0)] [(1000,.box 85 [.ii a1,.sl Y7 a1_2,.fn (.func 94) [] [],.fn (.func 94) [] []])] ?_
 refine AW.seq ?_
 refine AW.draw tab_ok mixed_ok [] [] (by decide) (lex_fast (by kernel_rfl)) ?_
 as_aux_lemma =>
  refine adops_cut 6 (fun K' hK1=>?_)
  try dsimp only [y1,y2,y3,y4]
  simp only [go_sem]
  repeat with_reducible refine zN ?_
  refine hK1 _ ?_
  as_aux_lemma =>
   obtain ⟨c3,h⟩:=ck_some.1 h
   obtain ⟨c4,h⟩:=ck_some.1 h
   refine adops_cut 2 (fun K' hK2=>?_)
   try dsimp only [y1,y2,y3,y4]
   simp only [go_sem]
   repeat with_reducible refine zN ?_
   refine hK2 _ ?_
   as_aux_lemma =>
    obtain ⟨v0,hv5,h⟩:=zw h
    refine adops.call (by first|trivial|rfl) rfl rfl rfl (fun _ h=>h) [] [] (hc_progress_statementOf_1 (a1_2.getD move.toNat (0,0,0,false)) hv5) rfl (by (simp only [go_sem])<;>(with_reducible and_intros)<;>first|assumption|rfl|omega|(unfold maxLen; omega)) (by (simp only [go_sem])<;>(with_reducible and_intros)<;>first|assumption|rfl|omega|(unfold maxLen; omega)) rfl ?_
    refine adops_cut 2 (fun K' hK6=>?_)
    try dsimp only [y1,y2,y3,y4]
    simp only [go_sem]
    repeat with_reducible refine zN ?_
    refine hK6 _ ?_
    refine adops_nil ?_
    refine athen_n ?_
    refine zV [(3,.bool (!(!(a1_2.getD move.toNat (0,0,0,false)).2.2.2)))] [(1000,.box 85 [.ii a1,.sl Y7 a1_2,.fn (.func 94) [] [],.fn (.func 94) [] []])] gt ?_
    as_aux_lemma =>
     refine AW.ret ?_
     obtain rfl:=zj h
     exact zR [] [] []
end Go.Proofs.Yteclokkdgmacpaa
