import Derived.Test.YteclokkdgmacpaaGrp
import Derived.Test.YteclokkdgmacpaaSh7
import Derived.Test.YteclokkdgmacpaaKoc1
import Derived.Test.YteclokkdgmacpaaYa7
namespace Go.Proofs.Yteclokkdgmacpaa
open Go.RowKit
set_option linter.unusedSimpArgs false
set_option linter.unusedVariables false
set_option linter.constructorNameAsVariable false
set_option maxRecDepth 100000
set_option maxHeartbeats 40000000
theorem hc_progress_statementOf (g:Int×(List (Int×Int×Int×Bool))) (claim:Int) (thread:Int) {r:Sum Int (Sum (Int×(List (Int×Int×Int×Bool))) (Sum (Int×(List (Int×Int×Int×Bool))) (Int×(List (Int×Int×Int×Bool)))))} (h:progress_statementOf g claim thread=some r):HC Try.prog 71 [] [.agg [.ii g.1,.sl Y7 g.2],.ii claim,.ii thread] (match r with|.inl r=>[]|.inr (.inl r)=>[]|.inr (.inr (.inl r))=>[(2000,.box 3 [.ii thread])]|.inr (.inr (.inr r))=>[(2000,.box 3 [.ii thread])]) ((match r with|.inl r=>.tup [.agg [.ii 0,.cv (.slice none 0 0),.cv (.nilFunc),.cv (.nilFunc)],.ii r]|.inr (.inl r)=>.tup [.agg [.ii r.1,.sl Y7 r.2,.fn (.func 94) [] [],.fn (.func 94) [] []],.ii 0]|.inr (.inr (.inl r))=>.tup [.agg [.ii r.1,.sl Y7 r.2,.fn (.func 96) [] [.bp 2000 0],.fn (.func 95) [] [.bp 2000 0]],.ii 0]|.inr (.inr (.inr r))=>.tup [.agg [.ii r.1,.sl Y7 r.2,.fn (.func 95) [] [.bp 2000 0],.fn (.func 95) [] [.bp 2000 0]],.ii 0])):=by
 unfold progress_statementOf at h
 refine zH Try.func71 [.cell 6 85,.tmp 7] 58 ?_
 refine zo ?_
 refine zB [(1,.ii claim),(3,.bp 3 0),(5,.bp 5 0),(6,.bp 6 0)] [(3,.box 24 [.ii g.1,.sl Y7 g.2]),(5,.box 3 [.ii thread]),(6,.box 85 [.ii 0,.cv (.slice none 0 0),.cv (.nilFunc),.cv (.nilFunc)])] ?_
 refine zo ?_
 refine zS 1 [(1,.ii claim),(5,.bp 5 0),(6,.bp 6 0),(14,.agg [.ii g.1,.sl Y7 g.2])] [(5,.box 3 [.ii thread]),(6,.box 85 [.ii 0,.cv (.slice none 0 0),.cv (.nilFunc),.cv (.nilFunc)])] ?_
 obtain ⟨v0,hv1,h⟩:=zw h
 refine zC [] [] (hc_progress_graphOf g hv1) [(1,.ii claim),(5,.bp 5 0),(6,.bp 6 0),(15,.tup [.agg [.ii v0.1,.sl Y7 v0.2.1],.ii v0.2.2])] [(5,.box 3 [.ii thread]),(6,.box 85 [.ii 0,.cv (.slice none 0 0),.cv (.nilFunc),.cv (.nilFunc)])] ?_
 refine zS 5 [(1,.ii claim),(5,.bp 5 0),(6,.bp 6 0),(8,.bp 8 0),(17,.ii v0.2.2)] [(5,.box 3 [.ii thread]),(6,.box 85 [.ii 0,.cv (.slice none 0 0),.cv (.nilFunc),.cv (.nilFunc)]),(8,.box 69 [.ii v0.1,.sl Y7 v0.2.1])] ?_
 refine zB [(1,.ii claim),(5,.bp 5 0),(6,.bp 6 0),(8,.bp 8 0),(9,.ii v0.2.2)] [(5,.box 3 [.ii thread]),(6,.box 85 [.ii 0,.cv (.slice none 0 0),.cv (.nilFunc),.cv (.nilFunc)]),(8,.box 69 [.ii v0.1,.sl Y7 v0.2.1])] ?_
 refine AW.seq ?_
 refine zo ?_
 refine zB [(1,.ii claim),(5,.bp 5 0),(6,.bp 6 0),(8,.bp 8 0),(9,.ii v0.2.2),(19,.bool (!(decide (v0.2.2=0))))] [(5,.box 3 [.ii thread]),(6,.box 85 [.ii 0,.cv (.slice none 0 0),.cv (.nilFunc),.cv (.nilFunc)]),(8,.box 69 [.ii v0.1,.sl Y7 v0.2.1])] ?_
 refine zQ h (fun hb2 h=>?_) (fun hb2 h=>?_)
 ·refine zo ?_
  refine zB [(6,.bp 6 0),(7,.ii v0.2.2)] [(6,.box 85 [.ii 0,.cv (.slice none 0 0),.cv (.nilFunc),.cv (.nilFunc)])] ?_
  refine zr ?_
  obtain rfl:=zj h
  exact zR [] [] []
 refine zk ?_
 refine AW.have5 (fun _:Unit=>progress_statementOf_k1 claim v0=some r) (fun _=>⟨fr [(6,.bp 6 0),(8,.bp 8 0),(10,.fn (.func 94) [] []),(11,.fn (.func 95) [] [.bp 5 0]),(12,.fn (.func 96) [] [.bp 5 0]),(41,.ii claim)],hpGet [(5,.box 3 [.ii thread]),(6,.box 85 [.ii 0,.cv (.slice none 0 0),.cv (.nilFunc),.cv (.nilFunc)]),(8,.box 69 [.ii v0.1,.sl Y7 v0.2.1])],gt⟩) (fun _ h=>?_) (fun hk_progress_statementOf_k1=>?_)
 ·as_aux_lemma =>
   unfold progress_statementOf_k1 at h
   refine AW.block ?_
   refine zo ?_
   refine zB [(6,.bp 6 0),(8,.bp 8 0),(10,.fn (.func 94) [] []),(11,.fn (.func 95) [] [.bp 5 0]),(12,.fn (.func 96) [] [.bp 5 0]),(41,.ii claim),(46,.bool (decide (claim=0)))] [(5,.box 3 [.ii thread]),(6,.box 85 [.ii 0,.cv (.slice none 0 0),.cv (.nilFunc),.cv (.nilFunc)]),(8,.box 69 [.ii v0.1,.sl Y7 v0.2.1])] ?_
   refine zQ h (fun hb3 h=>?_) (fun hb3 h=>?_)
   ·refine zo ?_
    refine zS 5 [(6,.bp 6 0)] [(6,.box 85 [.ii v0.1,.sl Y7 v0.2.1,.fn (.func 94) [] [],.fn (.func 94) [] []])] ?_
    refine zB [(6,.bp 6 0),(7,.ii 0)] [(6,.box 85 [.ii v0.1,.sl Y7 v0.2.1,.fn (.func 94) [] [],.fn (.func 94) [] []])] ?_
    refine AW.ret ?_
    refine ablock_r ?_
    obtain rfl:=zj h
    exact zR [] [] []
   refine zo ?_
   refine zB [(6,.bp 6 0),(8,.bp 8 0),(11,.fn (.func 95) [] [.bp 5 0]),(12,.fn (.func 96) [] [.bp 5 0]),(52,.bool (decide (claim=1)))] [(5,.box 3 [.ii thread]),(6,.box 85 [.ii 0,.cv (.slice none 0 0),.cv (.nilFunc),.cv (.nilFunc)]),(8,.box 69 [.ii v0.1,.sl Y7 v0.2.1])] ?_
   refine zQ h (fun hb4 h=>?_) (fun hb4 h=>?_)
   ·refine zo ?_
    refine zS 5 [(6,.bp 6 0)] [(5,.box 3 [.ii thread]),(6,.box 85 [.ii v0.1,.sl Y7 v0.2.1,.fn (.func 96) [] [.bp 5 0],.fn (.func 95) [] [.bp 5 0]])] ?_
    refine zB [(6,.bp 6 0),(7,.ii 0)] [(5,.box 3 [.ii thread]),(6,.box 85 [.ii v0.1,.sl Y7 v0.2.1,.fn (.func 96) [] [.bp 5 0],.fn (.func 95) [] [.bp 5 0]])] ?_
    refine AW.ret ?_
    refine ablock_r ?_
    obtain rfl:=zj h
    exact zR [] [] [(2000,5)]
   refine zo ?_
   refine zS 5 [(6,.bp 6 0)] [(5,.box 3 [.ii thread]),(6,.box 85 [.ii v0.1,.sl Y7 v0.2.1,.fn (.func 95) [] [.bp 5 0],.fn (.func 95) [] [.bp 5 0]])] ?_
   refine zB [(6,.bp 6 0),(7,.ii 0)] [(5,.box 3 [.ii thread]),(6,.box 85 [.ii v0.1,.sl Y7 v0.2.1,.fn (.func 95) [] [.bp 5 0],.fn (.func 95) [] [.bp 5 0]])] ?_
   refine AW.ret ?_
   refine ablock_r ?_
   obtain rfl:=zj h
   exact zR [] [] [(2000,5)]
 refine AW.seq ?_
 refine zo ?_
 refine zS 1 [(1,.ii claim),(5,.bp 5 0),(6,.bp 6 0),(8,.bp 8 0),(22,.ii claim)] [(5,.box 3 [.ii thread]),(6,.box 85 [.ii 0,.cv (.slice none 0 0),.cv (.nilFunc),.cv (.nilFunc)]),(8,.box 69 [.ii v0.1,.sl Y7 v0.2.1])] ?_
 obtain ⟨v0_2,hv5,h⟩:=zw h
 refine zC [] [] (hc_progress_isBelow claim 3 hv5) [(1,.ii claim),(5,.bp 5 0),(6,.bp 6 0),(8,.bp 8 0),(23,.bool v0_2)] [(5,.box 3 [.ii thread]),(6,.box 85 [.ii 0,.cv (.slice none 0 0),.cv (.nilFunc),.cv (.nilFunc)]),(8,.box 69 [.ii v0.1,.sl Y7 v0.2.1])] ?_
 refine zS 2 [(1,.ii claim),(5,.bp 5 0),(6,.bp 6 0),(8,.bp 8 0),(25,.bool (!v0_2))] [(5,.box 3 [.ii thread]),(6,.box 85 [.ii 0,.cv (.slice none 0 0),.cv (.nilFunc),.cv (.nilFunc)]),(8,.box 69 [.ii v0.1,.sl Y7 v0.2.1])] ?_
 rcases zI h with ⟨hb6,h⟩|⟨hb6,h⟩
 ·refine zS 5 [(1,.ii claim),(5,.bp 5 0),(6,.bp 6 0),(8,.bp 8 0),(30,.bool true)] [(5,.box 3 [.ii thread]),(6,.box 85 [.ii 0,.cv (.slice none 0 0),.cv (.nilFunc),.cv (.nilFunc)]),(8,.box 69 [.ii v0.1,.sl Y7 v0.2.1])] ?_
  refine zS 4 [(1,.ii claim),(5,.bp 5 0),(6,.bp 6 0),(8,.bp 8 0),(30,.bool true),(33,.cv (undef)),(34,.cv (undef))] [(5,.box 3 [.ii thread]),(6,.box 85 [.ii 0,.cv (.slice none 0 0),.cv (.nilFunc),.cv (.nilFunc)]),(8,.box 69 [.ii v0.1,.sl Y7 v0.2.1])] ?_
  refine zB [(1,.ii claim),(5,.bp 5 0),(6,.bp 6 0),(8,.bp 8 0),(37,.bool true)] [(5,.box 3 [.ii thread]),(6,.box 85 [.ii 0,.cv (.slice none 0 0),.cv (.nilFunc),.cv (.nilFunc)]),(8,.box 69 [.ii v0.1,.sl Y7 v0.2.1])] ?_
  refine AW.cond (b:=true) rfl (fun _=>?_) (fun hb7=>by cases hb7)
  refine zo ?_
  refine zB [(6,.bp 6 0),(7,.ii 2)] [(6,.box 85 [.ii 0,.cv (.slice none 0 0),.cv (.nilFunc),.cv (.nilFunc)])] ?_
  refine zr ?_
  obtain rfl:=zj h
  exact zR [] [] []
 refine zS 1 [(1,.ii claim),(5,.bp 5 0),(6,.bp 6 0),(8,.bp 8 0),(25,.bool false),(26,.ii thread)] [(5,.box 3 [.ii thread]),(6,.box 85 [.ii 0,.cv (.slice none 0 0),.cv (.nilFunc),.cv (.nilFunc)]),(8,.box 69 [.ii v0.1,.sl Y7 v0.2.1])] ?_
 obtain ⟨v0_3,hv8,h⟩:=zw h
 refine zG [] [] (hc_progress_isThread thread hv8) [(1,.ii claim),(5,.bp 5 0),(6,.bp 6 0),(8,.bp 8 0),(25,.bool false),(27,.bool v0_3)] [(5,.box 3 [.ii thread]),(6,.box 85 [.ii 0,.cv (.slice none 0 0),.cv (.nilFunc),.cv (.nilFunc)]),(8,.box 69 [.ii v0.1,.sl Y7 v0.2.1])] ?_
 refine zS 3 [(1,.ii claim),(5,.bp 5 0),(6,.bp 6 0),(8,.bp 8 0),(30,.bool (!v0_3))] [(5,.box 3 [.ii thread]),(6,.box 85 [.ii 0,.cv (.slice none 0 0),.cv (.nilFunc),.cv (.nilFunc)]),(8,.box 69 [.ii v0.1,.sl Y7 v0.2.1])] ?_
 rcases zI h with ⟨hb9,h⟩|⟨hb9,h⟩
 ·refine zS 4 [(1,.ii claim),(5,.bp 5 0),(6,.bp 6 0),(8,.bp 8 0),(30,.bool true),(33,.cv (undef)),(34,.cv (undef))] [(5,.box 3 [.ii thread]),(6,.box 85 [.ii 0,.cv (.slice none 0 0),.cv (.nilFunc),.cv (.nilFunc)]),(8,.box 69 [.ii v0.1,.sl Y7 v0.2.1])] ?_
  refine zB [(1,.ii claim),(5,.bp 5 0),(6,.bp 6 0),(8,.bp 8 0),(37,.bool true)] [(5,.box 3 [.ii thread]),(6,.box 85 [.ii 0,.cv (.slice none 0 0),.cv (.nilFunc),.cv (.nilFunc)]),(8,.box 69 [.ii v0.1,.sl Y7 v0.2.1])] ?_
  refine AW.cond (b:=true) rfl (fun _=>?_) (fun hb10=>by cases hb10)
  refine zo ?_
  refine zB [(6,.bp 6 0),(7,.ii 2)] [(6,.box 85 [.ii 0,.cv (.slice none 0 0),.cv (.nilFunc),.cv (.nilFunc)])] ?_
  refine zr ?_
  obtain rfl:=zj h
  exact zR [] [] []
 refine zS 3 [(1,.ii claim),(5,.bp 5 0),(6,.bp 6 0),(8,.bp 8 0),(30,.bool false),(33,.bool (decide (claim=0)))] [(5,.box 3 [.ii thread]),(6,.box 85 [.ii 0,.cv (.slice none 0 0),.cv (.nilFunc),.cv (.nilFunc)]),(8,.box 69 [.ii v0.1,.sl Y7 v0.2.1])] ?_
 rcases zI h with ⟨hb11,h⟩|⟨hb11,h⟩
 ·refine zB [(1,.ii claim),(5,.bp 5 0),(6,.bp 6 0),(8,.bp 8 0),(37,.bool (!(decide (thread=0))))] [(5,.box 3 [.ii thread]),(6,.box 85 [.ii 0,.cv (.slice none 0 0),.cv (.nilFunc),.cv (.nilFunc)]),(8,.box 69 [.ii v0.1,.sl Y7 v0.2.1])] ?_
  refine zQ h (fun hb12 h=>?_) (fun hb12 h=>?_)
  ·refine zo ?_
   refine zB [(6,.bp 6 0),(7,.ii 2)] [(6,.box 85 [.ii 0,.cv (.slice none 0 0),.cv (.nilFunc),.cv (.nilFunc)])] ?_
   refine zr ?_
   obtain rfl:=zj h
   exact zR [] [] []
  refine zk ?_
  refine zo ?_
  refine zB [(1,.ii claim),(5,.bp 5 0),(6,.bp 6 0),(8,.bp 8 0),(10,.fn (.func 94) [] [])] [(5,.box 3 [.ii thread]),(6,.box 85 [.ii 0,.cv (.slice none 0 0),.cv (.nilFunc),.cv (.nilFunc)]),(8,.box 69 [.ii v0.1,.sl Y7 v0.2.1])] ?_
  refine zo ?_
  refine zB [(1,.ii claim),(5,.bp 5 0),(6,.bp 6 0),(8,.bp 8 0),(10,.fn (.func 94) [] []),(11,.fn (.func 95) [] [.bp 5 0])] [(5,.box 3 [.ii thread]),(6,.box 85 [.ii 0,.cv (.slice none 0 0),.cv (.nilFunc),.cv (.nilFunc)]),(8,.box 69 [.ii v0.1,.sl Y7 v0.2.1])] ?_
  refine zo ?_
  refine zB [(1,.ii claim),(6,.bp 6 0),(8,.bp 8 0),(10,.fn (.func 94) [] []),(11,.fn (.func 95) [] [.bp 5 0]),(12,.fn (.func 96) [] [.bp 5 0])] [(5,.box 3 [.ii thread]),(6,.box 85 [.ii 0,.cv (.slice none 0 0),.cv (.nilFunc),.cv (.nilFunc)]),(8,.box 69 [.ii v0.1,.sl Y7 v0.2.1])] ?_
  refine zo ?_
  refine zB [(6,.bp 6 0),(8,.bp 8 0),(10,.fn (.func 94) [] []),(11,.fn (.func 95) [] [.bp 5 0]),(12,.fn (.func 96) [] [.bp 5 0]),(41,.ii claim)] [(5,.box 3 [.ii thread]),(6,.box 85 [.ii 0,.cv (.slice none 0 0),.cv (.nilFunc),.cv (.nilFunc)]),(8,.box 69 [.ii v0.1,.sl Y7 v0.2.1])] ?_
  exact AW.weaken (zL [] [] []) (hk_progress_statementOf_k1 () h)
 refine zB [(1,.ii claim),(5,.bp 5 0),(6,.bp 6 0),(8,.bp 8 0),(37,.bool false)] [(5,.box 3 [.ii thread]),(6,.box 85 [.ii 0,.cv (.slice none 0 0),.cv (.nilFunc),.cv (.nilFunc)]),(8,.box 69 [.ii v0.1,.sl Y7 v0.2.1])] ?_
 refine AW.cond (b:=false) rfl (fun hb13=>by cases hb13) (fun _=>?_)
 refine zk ?_
 refine zo ?_
 refine zB [(1,.ii claim),(5,.bp 5 0),(6,.bp 6 0),(8,.bp 8 0),(10,.fn (.func 94) [] [])] [(5,.box 3 [.ii thread]),(6,.box 85 [.ii 0,.cv (.slice none 0 0),.cv (.nilFunc),.cv (.nilFunc)]),(8,.box 69 [.ii v0.1,.sl Y7 v0.2.1])] ?_
 refine zo ?_
 refine zB [(1,.ii claim),(5,.bp 5 0),(6,.bp 6 0),(8,.bp 8 0),(10,.fn (.func 94) [] []),(11,.fn (.func 95) [] [.bp 5 0])] [(5,.box 3 [.ii thread]),(6,.box 85 [.ii 0,.cv (.slice none 0 0),.cv (.nilFunc),.cv (.nilFunc)]),(8,.box 69 [.ii v0.1,.sl Y7 v0.2.1])] ?_
 refine zo ?_
 refine zB [(1,.ii claim),(6,.bp 6 0),(8,.bp 8 0),(10,.fn (.func 94) [] []),(11,.fn (.func 95) [] [.bp 5 0]),(12,.fn (.func 96) [] [.bp 5 0])] [(5,.box 3 [.ii thread]),(6,.box 85 [.ii 0,.cv (.slice none 0 0),.cv (.nilFunc),.cv (.nilFunc)]),(8,.box 69 [.ii v0.1,.sl Y7 v0.2.1])] ?_
 refine zo ?_
 refine zB [(6,.bp 6 0),(8,.bp 8 0),(10,.fn (.func 94) [] []),(11,.fn (.func 95) [] [.bp 5 0]),(12,.fn (.func 96) [] [.bp 5 0]),(41,.ii claim)] [(5,.box 3 [.ii thread]),(6,.box 85 [.ii 0,.cv (.slice none 0 0),.cv (.nilFunc),.cv (.nilFunc)]),(8,.box 69 [.ii v0.1,.sl Y7 v0.2.1])] ?_
 exact AW.weaken (zL [] [] []) (hk_progress_statementOf_k1 () h)
theorem hc_progress_statementOf_a0 (g:Int×(List (Int×Int×Int×Bool))) (claim:Int) (thread:Int) {r:Int} (h:progress_statementOf g claim thread=some (Sum.inl r)):HC Try.prog 71 [] [.agg [.ii g.1,.sl Y7 g.2],.ii claim,.ii thread] [] (.tup [.agg [.ii 0,.cv (.slice none 0 0),.cv (.nilFunc),.cv (.nilFunc)],.ii r]):=hc_progress_statementOf g claim thread h
theorem hc_progress_statementOf_a1 (g:Int×(List (Int×Int×Int×Bool))) (claim:Int) (thread:Int) {r:Int×(List (Int×Int×Int×Bool))} (h:progress_statementOf g claim thread=some (Sum.inr (Sum.inl r))):HC Try.prog 71 [] [.agg [.ii g.1,.sl Y7 g.2],.ii claim,.ii thread] [] (.tup [.agg [.ii r.1,.sl Y7 r.2,.fn (.func 94) [] [],.fn (.func 94) [] []],.ii 0]):=hc_progress_statementOf g claim thread h
theorem hc_progress_statementOf_a2 (g:Int×(List (Int×Int×Int×Bool))) (claim:Int) (thread:Int) {r:Int×(List (Int×Int×Int×Bool))} (h:progress_statementOf g claim thread=some (Sum.inr (Sum.inr (Sum.inl r)))):HC Try.prog 71 [] [.agg [.ii g.1,.sl Y7 g.2],.ii claim,.ii thread] [(2000,.box 3 [.ii thread])] (.tup [.agg [.ii r.1,.sl Y7 r.2,.fn (.func 96) [] [.bp 2000 0],.fn (.func 95) [] [.bp 2000 0]],.ii 0]):=hc_progress_statementOf g claim thread h
theorem hc_progress_statementOf_a3 (g:Int×(List (Int×Int×Int×Bool))) (claim:Int) (thread:Int) {r:Int×(List (Int×Int×Int×Bool))} (h:progress_statementOf g claim thread=some (Sum.inr (Sum.inr (Sum.inr r)))):HC Try.prog 71 [] [.agg [.ii g.1,.sl Y7 g.2],.ii claim,.ii thread] [(2000,.box 3 [.ii thread])] (.tup [.agg [.ii r.1,.sl Y7 r.2,.fn (.func 95) [] [.bp 2000 0],.fn (.func 95) [] [.bp 2000 0]],.ii 0]):=hc_progress_statementOf g claim thread h
theorem hc_progress_graph_paths (g:Int×(List (Int×Int×Int×Bool))) (from0:Int) {r:Unit} (h:progress_graph_paths g from0=some r):HC Try.prog 89 [] [.agg [.ii g.1,.sl Y7 g.2],.ii from0,.fn (.func 67) [] []] [(2000,.box 3 [.ii from0]),(2001,.box 69 [.ii g.1,.sl Y7 g.2]),(2002,.box 81 [.fn (.func 67) [] []])] (.fn (.func 108) [] [.bp 2000 0,.bp 2001 0,.bp 2002 0]):=by
 unfold progress_graph_paths at h
 refine zH Try.func89 [.tmp 6] 8 ?_
 refine zo ?_
 refine zB [(3,.bp 3 0),(4,.bp 4 0),(5,.bp 5 0)] [(3,.box 69 [.ii g.1,.sl Y7 g.2]),(4,.box 3 [.ii from0]),(5,.box 81 [.fn (.func 67) [] []])] ?_
 refine zo ?_
 refine zB [(6,.fn (.func 108) [] [.bp 4 0,.bp 3 0,.bp 5 0])] [(3,.box 69 [.ii g.1,.sl Y7 g.2]),(4,.box 3 [.ii from0]),(5,.box 81 [.fn (.func 67) [] []])] ?_
 refine AW.ret ?_
 obtain rfl:=zj h
 exact zR [] [] [(2000,4),(2001,3),(2002,5)]
theorem hc_progress_anyMove (a0:Int×Int×Int×Bool) {r:Unit} (h:progress_anyMove a0=some r):HC Try.prog 67 [] [.agg [.ii a0.1,.ii a0.2.1,.ii a0.2.2.1,.bool a0.2.2.2]] [] (.bool true):=by
 unfold progress_anyMove at h
 refine zH Try.func67 [.tmp 2] 3 ?_
 refine zo ?_
 refine zB [] [] ?_
 refine zo ?_
 refine zB [(2,.bool true)] [] ?_
 refine AW.ret ?_
 obtain rfl:=zj h
 exact zR [] [] []
theorem hc_slices_Index_2 (s:List Int) (v0:Int) {r:Int} (h:slices_Index_2 s v0=some r):HC Try.prog 112 [] [.sl (.int .i64) s,.ii v0] [] (.ii r):=by
 unfold slices_Index_2 at h
 refine zH Try.func112 [.tmp 4] 19 ?_
 refine zo ?_
 refine zB [(0,.sl (.int .i64) s),(1,.ii v0)] [] ?_
 refine AW.have1 (fun _:Unit=>slices_Index_2_k1=some r) (fun _=>⟨fr [],hpGet [],gt⟩) (fun _ h=>?_) (fun hk_slices_Index_2_k1=>?_)
 ·as_aux_lemma =>
   unfold slices_Index_2_k1 at h
   refine zo ?_
   refine zB [(4,.ii (-1))] [] ?_
   refine AW.ret ?_
   obtain rfl:=zj h
   exact zR [] [] []
 refine AW.seq ?_
 refine zo ?_
 refine zB [(0,.sl (.int .i64) s),(1,.ii v0),(7,.ii (s.length:Int)),(8,.ii 0)] [] ?_
 refine AW.block ?_
 obtain ⟨rv5,hw1,ho2⟩:=zw h
 refine AW.loopO (slices_Index_2_b1 s v0) (fun st1=>⟨fr [(0,.sl (.int .i64) s),(1,.ii v0),(7,.ii (s.length:Int)),(8,.ii st1)],hpGet [],gt⟩) 0 hw1 (zL [] [] []) ?_
 as_aux_lemma =>
  intro st1 x4 h hd3
  unfold slices_Index_2_b1 at h
  refine zo ?_
  refine zB [(0,.sl (.int .i64) s),(1,.ii v0),(7,.ii (s.length:Int)),(8,.ii st1),(9,.bool (decide (st1<(s.length:Int))))] [] ?_
  refine AW.seq ?_
  refine zQ h (fun hb6 h=>?_) (fun hb6 h=>?_)
  ·refine zk ?_
   refine AW.seq ?_
   refine AW.block ?_
   refine zo ?_
   refine zB [(0,.sl (.int .i64) s),(1,.ii v0),(5,.ii st1),(7,.ii (s.length:Int)),(8,.ii st1)] [] ?_
   refine zo ?_
   obtain ⟨c7,h⟩:=ck_some.1 h
   obtain ⟨c8,h⟩:=ck_some.1 h
   refine zS 5 [(0,.sl (.int .i64) s),(1,.ii v0),(5,.ii st1),(7,.ii (s.length:Int)),(8,.ii st1),(11,.ii v0),(15,.ii (s.getD st1.toNat 0))] [] ?_
   refine zB [(0,.sl (.int .i64) s),(1,.ii v0),(5,.ii st1),(7,.ii (s.length:Int)),(8,.ii st1),(16,.bool (decide (v0=(s.getD st1.toNat 0))))] [] ?_
   refine zQ h (fun hb9 h=>?_) (fun hb9 h=>?_)
   ·refine zo ?_
    refine zB [(4,.ii st1)] [] ?_
    refine AW.ret ?_
    refine ablock_r ?_
    refine athen_r ?_
    obtain rfl:=zj h
    rw [← hd3 _ rfl] at ho2
    have h:=ho2
    try simp only at h
    refine athen_r ?_
    refine ablock_r ?_
    refine athen_r ?_
    obtain rfl:=zj h
    exact zR [] [] []
   refine zm ?_
   refine athen_n ?_
   refine AW.ops ?_
   obtain ⟨c10,h⟩:=ck_some.1 h
   refine zA [(0,.sl (.int .i64) s),(1,.ii v0),(7,.ii (s.length:Int)),(8,.ii (st1+1))] [] ?_
   obtain rfl:=zj h
   exact ⟨_,rfl,zL [] [] []⟩
  refine AW.exit ?_
  refine athen_e ?_
  obtain rfl:=zj h
  rw [← hd3 _ rfl] at ho2
  have h:=ho2
  try simp only at h
  refine athen_e ?_
  refine ablock_s ?_
  refine athen_n ?_
  exact AW.weaken (zL [] [] []) (hk_slices_Index_2_k1 () h)
theorem hc_slices_Contains_2 (s:List Int) (v0:Int) {r:Bool} (h:slices_Contains_2 s v0=some r):HC Try.prog 102 [] [.sl (.int .i64) s,.ii v0] [] (.bool r):=by
 unfold slices_Contains_2 at h
 refine zH Try.func102 [.tmp 4] 9 ?_
 refine zo ?_
 refine zB [(0,.sl (.int .i64) s),(1,.ii v0)] [] ?_
 refine zo ?_
 refine zS 2 [(5,.sl (.int .i64) s),(6,.ii v0)] [] ?_
 obtain ⟨v0_2,hv1,h⟩:=zw h
 refine zC [] [] (hc_slices_Index_2 s v0 hv1) [(7,.ii v0_2)] [] ?_
 refine zB [(4,.bool (decide (0≤v0_2)))] [] ?_
 refine AW.ret ?_
 obtain rfl:=zj h
 exact zR [] [] []
theorem hc_slices_Grow (n:Int) {r:Unit} (h:slices_Grow n=some r):HC Try.prog 113 [] [.cv (.slice none 0 0),.ii n] [(2000,.arr 3 (.int .i64) [])] (.own 2000):=by
 unfold slices_Grow at h
 refine zH Try.func113 [.tmp 4] 27 ?_
 refine zo ?_
 refine zB [(0,.cv (.slice none 0 0)),(1,.ii n)] [] ?_
 refine AW.seq ?_
 refine zo ?_
 refine zB [(0,.cv (.slice none 0 0)),(1,.ii n),(6,.bool (decide (n<0)))] [] ?_
 refine zQ h (fun hb1 h=>?_) (fun hb1 h=>?_)
 ·refine AW.ops ?_
  cases h
 refine zk ?_
 refine AW.seq ?_
 refine zo ?_
 refine zS 2 [(0,.cv (.slice none 0 0)),(8,.ii n),(9,.cv (.slice none 0 0))] [] ?_
 refine AO.capNil tab_ok (by decide) rfl rfl rfl rfl rfl tab_25 rfl rfl ?_
 refine zT [(0,.cv (.slice none 0 0)),(8,.ii n),(10,.ii 0)] [] gt ?_
 obtain ⟨c2,h⟩:=ck_some.1 h
 obtain ⟨c3,h⟩:=ck_some.1 h
 refine zB [(0,.cv (.slice none 0 0)),(1,.ii (n - (0 - 0)))] [] ?_
 refine zo ?_
 refine zB [(0,.cv (.slice none 0 0)),(1,.ii (n - (0 - 0))),(16,.bool (decide (0<(n - (0 - 0)))))] [] ?_
 refine zQ h (fun hb4 h=>?_) (fun hb4 h=>?_)
 ·refine AW.ops ?_
  refine zS 2 [(0,.cv (.slice none 0 0)),(1,.ii (n - (0 - 0))),(17,.cv (.slice none 0 0)),(18,.cv (.slice none 0 0))] [] ?_
  refine AO.capNil tab_ok (by decide) rfl rfl rfl rfl rfl tab_25 rfl rfl ?_
  refine zT [(0,.cv (.slice none 0 0)),(1,.ii (n - (0 - 0))),(17,.cv (.slice none 0 0)),(19,.ii 0)] [] gt ?_
  refine AO.sliceNil tab_ok (by decide) rfl rfl tab_25 rfl tab_3 rfl rfl ?_
  refine zT [(0,.cv (.slice none 0 0)),(1,.ii (n - (0 - 0))),(20,.cv (.slice none 0 0))] [] gt ?_
  refine zS 1 [(0,.cv (.slice none 0 0)),(20,.cv (.slice none 0 0)),(21,.ii (n - (0 - 0)))] [] ?_
  obtain ⟨c5,h⟩:=ck_some.1 h
  obtain ⟨c6,h⟩:=ck_some.1 h
  obtain ⟨c7,h⟩:=ck_some.1 h
  refine AO.appendZeros tab_ok (by decide) (by decide) rfl rfl rfl rfl rfl tab_25 rfl tab_3 rfl tab_3 rfl rfl rfl (by first|assumption|omega|(simp only [go_sem,hb1,hb4])<;>(with_reducible and_intros)<;>first|assumption|rfl|omega|(unfold maxLen; omega)) (by first|assumption|omega|(simp only [go_sem,hb1,hb4])<;>(with_reducible and_intros)<;>first|assumption|rfl|omega|(unfold maxLen; omega)) (by first|assumption|omega|(simp only [go_sem,hb1,hb4])<;>(with_reducible and_intros)<;>first|assumption|rfl|omega|(unfold maxLen; omega)) ?_
  refine zT [(0,.cv (.slice none 0 0)),(22,.own 22)] [(22,.arr 3 (.int .i64) (List.replicate (n - (0 - 0)).toNat (0:Int)))] gt ?_
  refine zS 2 [(22,.own 22),(24,.ii 0)] [(22,.arr 3 (.int .i64) (List.replicate (n - (0 - 0)).toNat (0:Int)))] ?_
  obtain ⟨c8,h⟩:=ck_some.1 h
  obtain ⟨c9,h⟩:=ck_some.1 h
  refine AO.sliceOwn tab_ok (by decide) (by decide) rfl rfl tab_25 rfl tab_3 rfl rfl rfl rfl (by first|assumption|omega|(simp only [go_sem,hb1,hb4])<;>(with_reducible and_intros)<;>first|assumption|rfl|omega|(unfold maxLen; omega)) (by first|assumption|omega|(simp only [go_sem,hb1,hb4])<;>(with_reducible and_intros)<;>first|assumption|rfl|omega|(unfold maxLen; omega)) ?_
  refine zT [(25,.own 25)] [(25,.arr 3 (.int .i64) [])] gt ?_
  refine zB [(0,.own 25)] [(25,.arr 3 (.int .i64) [])] ?_
  refine zo ?_
  refine zB [(4,.own 25)] [(25,.arr 3 (.int .i64) [])] ?_
  refine AW.ret ?_
  obtain rfl:=zj h
  exact zR [] [] [(2000,25)]
 refine zk ?_
 refine zo ?_
 refine zB [(4,.cv (.slice none 0 0))] [] ?_
 refine AW.ret ?_
 obtain rfl:=zj h
 exact zR [] [2000] []
theorem hc_slices_Concat (slices:List (List Int)) {r:(List Int)} (h:slices_Concat slices=some r):HC Try.prog 109 [] [.sl (.sl (.int .i64)) slices] [(2000,.arr 3 (.int .i64) r)] (.own 2000):=by
 unfold slices_Concat at h
 refine zH Try.func109 [.tmp 2] 36 ?_
 refine zo ?_
 refine zB [(0,.sl (.sl (.int .i64)) slices)] [] ?_
 refine zo ?_
 refine zB [(0,.sl (.sl (.int .i64)) slices),(3,.ii 0)] [] ?_
 refine AW.have1 (fun b1:Int=>slices_Concat_k1 slices b1=some r) (fun b1=>⟨fr [(0,.sl (.sl (.int .i64)) slices),(3,.ii b1)],hpGet [],gt⟩) (fun b1 h=>?_) (fun hk_slices_Concat_k1=>?_)
 ·as_aux_lemma =>
   unfold slices_Concat_k1 at h
   refine zo ?_
   refine zS 1 [(0,.sl (.sl (.int .i64)) slices),(23,.ii b1)] [] ?_
   obtain ⟨v0,hv1,h⟩:=zw h
   refine zC [] [] (hc_slices_Grow b1 hv1) [(0,.sl (.sl (.int .i64)) slices),(24,.own 34000)] [(34000,.arr 3 (.int .i64) [])] ?_
   refine zB [(0,.sl (.sl (.int .i64)) slices),(6,.own 34000)] [(34000,.arr 3 (.int .i64) [])] ?_
   refine AW.have1 (fun b2:(List Int)=>slices_Concat_k2 b2=some r) (fun b2=>⟨fr [(6,.own 34000)],hpGet [(34000,.arr 3 (.int .i64) b2)],gt⟩) (fun b2 h=>?_) (fun hk_slices_Concat_k2=>?_)
   ·as_aux_lemma =>
     unfold slices_Concat_k2 at h
     refine zo ?_
     refine zB [(2,.own 34000)] [(34000,.arr 3 (.int .i64) b2)] ?_
     refine AW.ret ?_
     obtain rfl:=zj h
     exact zR [] [] [(2000,34000)]
   refine AW.seq ?_
   refine zo ?_
   refine zB [(6,.own 34000),(25,.sl (.sl (.int .i64)) slices),(26,.ii (slices.length:Int)),(27,.ii 0)] [(34000,.arr 3 (.int .i64) [])] ?_
   refine AW.block ?_
   obtain ⟨rv6,hw2,ho3⟩:=zw h
   refine AW.loopO (slices_Concat_b2 slices) (fun st2=>⟨fr [(6,.own 34000),(25,.sl (.sl (.int .i64)) slices),(26,.ii (slices.length:Int)),(27,.ii st2.2)],hpGet [(34000,.arr 3 (.int .i64) st2.1)],gt⟩) ([],0) hw2 (zL [] [] []) ?_
   as_aux_lemma =>
    intro st2 x5 h hd4
    unfold slices_Concat_b2 at h
    refine zo ?_
    refine zB [(6,.own 34000),(25,.sl (.sl (.int .i64)) slices),(26,.ii (slices.length:Int)),(27,.ii st2.2),(28,.bool (decide (st2.2<(slices.length:Int))))] [(34000,.arr 3 (.int .i64) st2.1)] ?_
    refine AW.seq ?_
    refine zQ h (fun hb7 h=>?_) (fun hb7 h=>?_)
    ·refine zk ?_
     refine AW.seq ?_
     refine AW.block ?_
     refine zo ?_
     obtain ⟨c8,h⟩:=ck_some.1 h
     obtain ⟨c9,h⟩:=ck_some.1 h
     refine zB [(6,.own 34000),(8,.sl (.int .i64) (slices.getD st2.2.toNat [])),(25,.sl (.sl (.int .i64)) slices),(26,.ii (slices.length:Int)),(27,.ii st2.2)] [(34000,.arr 3 (.int .i64) st2.1)] ?_
     refine AW.ops ?_
     obtain ⟨c10,h⟩:=ck_some.1 h
     refine zA [(6,.own 33),(25,.sl (.sl (.int .i64)) slices),(26,.ii (slices.length:Int)),(27,.ii st2.2)] [(33,.arr 3 (.int .i64) (st2.1++(slices.getD st2.2.toNat [])))] ?_
     refine ablock_n ?_
     refine athen_n ?_
     refine AW.ops ?_
     obtain ⟨c11,h⟩:=ck_some.1 h
     refine zA [(6,.own 33),(25,.sl (.sl (.int .i64)) slices),(26,.ii (slices.length:Int)),(27,.ii (st2.2+1))] [(33,.arr 3 (.int .i64) (st2.1++(slices.getD st2.2.toNat [])))] ?_
     obtain rfl:=zj h
     exact ⟨_,rfl,zL [] [] [(34000,33)]⟩
    refine AW.exit ?_
    refine athen_e ?_
    obtain rfl:=zj h
    rw [← hd4 _ rfl] at ho3
    have h:=ho3
    refine athen_e ?_
    refine ablock_s ?_
    refine athen_n ?_
    exact AW.weaken (zL [] [] []) (hk_slices_Concat_k2 _ h)
 refine AW.seq ?_
 refine zo ?_
 refine zB [(0,.sl (.sl (.int .i64)) slices),(3,.ii 0),(9,.sl (.sl (.int .i64)) slices),(10,.ii (slices.length:Int)),(11,.ii 0)] [] ?_
 refine AW.block ?_
 obtain ⟨rv16,hw12,ho13⟩:=zw h
 refine AW.loopO (slices_Concat_b1 slices) (fun st1=>⟨fr [(0,.sl (.sl (.int .i64)) slices),(3,.ii st1.1),(9,.sl (.sl (.int .i64)) slices),(10,.ii (slices.length:Int)),(11,.ii st1.2)],hpGet [],gt⟩) (0,0) hw12 (zL [] [] []) ?_
 as_aux_lemma =>
  intro st1 x15 h hd14
  unfold slices_Concat_b1 at h
  refine zo ?_
  refine zB [(0,.sl (.sl (.int .i64)) slices),(3,.ii st1.1),(9,.sl (.sl (.int .i64)) slices),(10,.ii (slices.length:Int)),(11,.ii st1.2),(12,.bool (decide (st1.2<(slices.length:Int))))] [] ?_
  refine AW.seq ?_
  refine zQ h (fun hb17 h=>?_) (fun hb17 h=>?_)
  ·refine zk ?_
   refine AW.seq ?_
   refine AW.block ?_
   refine zo ?_
   obtain ⟨c18,h⟩:=ck_some.1 h
   obtain ⟨c19,h⟩:=ck_some.1 h
   refine zB [(0,.sl (.sl (.int .i64)) slices),(3,.ii st1.1),(5,.sl (.int .i64) (slices.getD st1.2.toNat [])),(9,.sl (.sl (.int .i64)) slices),(10,.ii (slices.length:Int)),(11,.ii st1.2)] [] ?_
   refine zo ?_
   obtain ⟨c20,h⟩:=ck_some.1 h
   refine zB [(0,.sl (.sl (.int .i64)) slices),(3,.ii (st1.1+((slices.getD st1.2.toNat []).length:Int))),(9,.sl (.sl (.int .i64)) slices),(10,.ii (slices.length:Int)),(11,.ii st1.2)] [] ?_
   refine zo ?_
   refine zB [(0,.sl (.sl (.int .i64)) slices),(3,.ii (st1.1+((slices.getD st1.2.toNat []).length:Int))),(9,.sl (.sl (.int .i64)) slices),(10,.ii (slices.length:Int)),(11,.ii st1.2),(20,.bool (decide ((st1.1+((slices.getD st1.2.toNat []).length:Int))<0)))] [] ?_
   refine zQ h (fun hb21 h=>?_) (fun hb21 h=>?_)
   ·refine AW.ops ?_
    cases h
   refine zm ?_
   refine athen_n ?_
   refine AW.ops ?_
   obtain ⟨c22,h⟩:=ck_some.1 h
   refine zA [(0,.sl (.sl (.int .i64)) slices),(3,.ii (st1.1+((slices.getD st1.2.toNat []).length:Int))),(9,.sl (.sl (.int .i64)) slices),(10,.ii (slices.length:Int)),(11,.ii (st1.2+1))] [] ?_
   obtain rfl:=zj h
   exact ⟨_,rfl,zL [] [] []⟩
  refine AW.exit ?_
  refine athen_e ?_
  obtain rfl:=zj h
  rw [← hd14 _ rfl] at ho13
  have h:=ho13
  refine athen_e ?_
  refine ablock_s ?_
  refine athen_n ?_
  exact AW.weaken (zL [] [] []) (hk_slices_Concat_k1 _ h)
end Go.Proofs.Yteclokkdgmacpaa
