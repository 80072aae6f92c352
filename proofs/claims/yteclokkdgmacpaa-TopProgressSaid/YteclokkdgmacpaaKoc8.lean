import Derived.Test.YteclokkdgmacpaaGrp
import Derived.Test.YteclokkdgmacpaaSh7
import Derived.Test.YteclokkdgmacpaaAvd
import Derived.Test.YteclokkdgmacpaaKoc1
import Derived.Test.YteclokkdgmacpaaKoc2
import Derived.Test.YteclokkdgmacpaaKoc4
import Derived.Test.YteclokkdgmacpaaKoc5
import Derived.Test.YteclokkdgmacpaaKoc6
import Derived.Test.YteclokkdgmacpaaKoc7
import Derived.Test.YteclokkdgmacpaaYa7
namespace Go.Proofs.Yteclokkdgmacpaa
open Go.RowKit
set_option linter.unusedSimpArgs false
set_option linter.unusedVariables false
set_option linter.constructorNameAsVariable false
set_option maxRecDepth 100000
set_option maxHeartbeats 40000000
theorem hc_linealref07_reached (g:Int×(List (Int×Int×Int×Bool))) {r:(List Bool)} (h:linealref07_reached g=some r):HC Try.prog 65 [] [.agg [.ii g.1,.sl Y7 g.2]] [(2000,.arr 4 .bool r)] (.own 2000):=by
 unfold linealref07_reached at h
 refine zH Try.func65 [.tmp 2] 41 ?_
 refine zo ?_
 refine zB [(1,.bp 1 0)] [(1,.box 24 [.ii g.1,.sl Y7 g.2])] ?_
 refine zo ?_
 obtain ⟨c1,h⟩:=ck_some.1 h
 obtain ⟨c2,h⟩:=ck_some.1 h
 refine zB [(1,.bp 1 0),(3,.own 8)] [(1,.box 24 [.ii g.1,.sl Y7 g.2]),(8,.arr 4 .bool (List.replicate g.1.toNat (false:Bool)))] ?_
 refine zo ?_
 obtain ⟨c3,h⟩:=ck_some.1 h
 refine zB [(1,.bp 1 0),(3,.own 8)] [(1,.box 24 [.ii g.1,.sl Y7 g.2]),(8,.arr 4 .bool ((List.replicate g.1.toNat (false:Bool)).set 0 true))] ?_
 refine AW.have1 (fun b2_2:(List Bool)=>linealref07_reached_k1 b2_2=some r) (fun b2_2=>⟨fr [(3,.own 8)],hpGet [(8,.arr 4 .bool b2_2)],gt⟩) (fun b2_2 h=>?_) (fun hk_linealref07_reached_k1=>?_)
 ·as_aux_lemma =>
   unfold linealref07_reached_k1 at h
   refine zo ?_
   refine zB [(2,.own 8)] [(8,.arr 4 .bool b2_2)] ?_
   refine AW.ret ?_
   obtain rfl:=zj h
   exact zR [] [] [(2000,8)]
 refine AW.seq ?_
 refine zo ?_
 refine zB [(1,.bp 1 0),(3,.own 8),(12,.ii g.1),(13,.ii 0)] [(1,.box 24 [.ii g.1,.sl Y7 g.2]),(8,.arr 4 .bool ((List.replicate g.1.toNat (false:Bool)).set 0 true))] ?_
 refine AW.block ?_
 obtain ⟨rv8,hw4,ho5⟩:=zw h
 refine AW.loopO (linealref07_reached_b1 g) (fun st1=>⟨fr [(1,.bp 1 0),(3,.own 8),(12,.ii g.1),(13,.ii st1.2)],hpGet [(1,.box 24 [.ii g.1,.sl Y7 g.2]),(8,.arr 4 .bool st1.1)],gt⟩) (((List.replicate g.1.toNat (false:Bool)).set 0 true),0) hw4 (zL [] [] []) ?_
 as_aux_lemma =>
  intro st1 x7 h hd6
  unfold linealref07_reached_b1 at h
  refine zo ?_
  refine zB [(1,.bp 1 0),(3,.own 8),(12,.ii g.1),(13,.ii st1.2),(14,.bool (decide (st1.2<g.1)))] [(1,.box 24 [.ii g.1,.sl Y7 g.2]),(8,.arr 4 .bool st1.1)] ?_
  refine AW.seq ?_
  refine zQ h (fun hb9 h=>?_) (fun hb9 h=>?_)
  ·refine zk ?_
   refine AW.have1 (fun b2:(List Bool)=>linealref07_reached_k2 st1 b2=some x7) (fun b2=>⟨fr [(1,.bp 1 0),(3,.own 8),(12,.ii g.1),(13,.ii st1.2)],hpGet [(1,.box 24 [.ii g.1,.sl Y7 g.2]),(8,.arr 4 .bool b2)],gt⟩) (fun b2 h=>?_) (fun hk_linealref07_reached_k2=>?_)
   ·as_aux_lemma =>
     unfold linealref07_reached_k2 at h
     refine AW.ops ?_
     obtain ⟨c10,h⟩:=ck_some.1 h
     refine zA [(1,.bp 1 0),(3,.own 8),(12,.ii g.1),(13,.ii (st1.2+1))] [(1,.box 24 [.ii g.1,.sl Y7 g.2]),(8,.arr 4 .bool b2)] ?_
     obtain rfl:=zj h
     exact ⟨_,rfl,zL [] [] []⟩
   refine AW.seq ?_
   refine AW.block ?_
   refine zo ?_
   refine zB [(1,.bp 1 0),(3,.own 8),(12,.ii g.1),(13,.ii st1.2),(16,.sl Y7 g.2),(17,.ii (g.2.length:Int)),(18,.ii 0)] [(1,.box 24 [.ii g.1,.sl Y7 g.2]),(8,.arr 4 .bool st1.1)] ?_
   refine AW.block ?_
   obtain ⟨rv15,hw11,ho12⟩:=zw h
   refine AW.loopO (linealref07_reached_b2 g) (fun st2=>⟨fr [(1,.bp 1 0),(3,.own 8),(12,.ii g.1),(13,.ii st1.2),(16,.sl Y7 g.2),(17,.ii (g.2.length:Int)),(18,.ii st2.2)],hpGet [(1,.box 24 [.ii g.1,.sl Y7 g.2]),(8,.arr 4 .bool st2.1)],gt⟩) (st1.1,0) hw11 (zL [] [] []) ?_
   as_aux_lemma =>
    intro st2 x14 h hd13
    unfold linealref07_reached_b2 at h
    refine zo ?_
    refine zB [(1,.bp 1 0),(3,.own 8),(12,.ii g.1),(13,.ii st1.2),(16,.sl Y7 g.2),(17,.ii (g.2.length:Int)),(18,.ii st2.2),(19,.bool (decide (st2.2<(g.2.length:Int))))] [(1,.box 24 [.ii g.1,.sl Y7 g.2]),(8,.arr 4 .bool st2.1)] ?_
    refine AW.seq ?_
    refine zQ h (fun hb16 h=>?_) (fun hb16 h=>?_)
    ·refine zk ?_
     refine AW.seq ?_
     refine AW.block ?_
     refine zo ?_
     obtain ⟨c17,h⟩:=ck_some.1 h
     obtain ⟨c18,h⟩:=ck_some.1 h
     refine zB [(1,.bp 1 0),(3,.own 8),(5,.bp 5 0),(12,.ii g.1),(13,.ii st1.2),(16,.sl Y7 g.2),(17,.ii (g.2.length:Int)),(18,.ii st2.2)] [(1,.box 24 [.ii g.1,.sl Y7 g.2]),(5,.box 61 [.ii (g.2.getD st2.2.toNat (0,0,0,false)).1,.ii (g.2.getD st2.2.toNat (0,0,0,false)).2.1,.ii (g.2.getD st2.2.toNat (0,0,0,false)).2.2.1,.bool (g.2.getD st2.2.toNat (0,0,0,false)).2.2.2]),(8,.arr 4 .bool st2.1)] ?_
     refine AW.draw tab_ok mixed_ok [(16,[8])] [] (by decide) (lex_fast (by kernel_rfl)) ?_
     as_aux_lemma =>
      refine adops_cut 6 (fun K' hK19=>?_)
      try dsimp only [y1,y2,y3,y4]
      simp only [go_sem,hb9,hb16]
      repeat with_reducible refine zN ?_
      refine hK19 _ ?_
      as_aux_lemma =>
       obtain ⟨c21,h⟩:=ck_some.1 h
       obtain ⟨c22,h⟩:=ck_some.1 h
       refine adops_cut 3 (fun K' hK20=>?_)
       try dsimp only [y1,y2,y3,y4]
       simp only [go_sem,hb9,hb16]
       repeat with_reducible refine zN ?_
       refine hK20 _ ?_
       as_aux_lemma =>
        rcases zI h with ⟨hb23,h⟩|⟨hb23,h⟩
        ·simp only [hb23]
         as_aux_lemma =>
          refine adops_cut 4 (fun K' hK24=>?_)
          try dsimp only [y1,y2,y3,y4]
          simp only [go_sem,hb9,hb16,hb23]
          repeat with_reducible refine zN ?_
          refine hK24 _ ?_
          as_aux_lemma =>
           obtain ⟨c26,h⟩:=ck_some.1 h
           obtain ⟨c27,h⟩:=ck_some.1 h
           refine adops_cut 4 (fun K' hK25=>?_)
           try dsimp only [y1,y2,y3,y4]
           simp only [go_sem,hb9,hb16,hb23]
           repeat with_reducible refine zN ?_
           refine hK25 _ ?_
           refine adops_nil ?_
           refine ablock_n ?_
           refine athen_n ?_
           refine zV [(1,.bp 1 0),(3,.own 8),(12,.ii g.1),(13,.ii st1.2),(16,.sl Y7 g.2),(17,.ii (g.2.length:Int)),(18,.ii st2.2)] [(1,.box 24 [.ii g.1,.sl Y7 g.2]),(8,.arr 4 .bool (st2.1.set (g.2.getD st2.2.toNat (0,0,0,false)).2.2.1.toNat true))] gt ?_
           as_aux_lemma =>
            refine AW.ops ?_
            obtain ⟨c28,h⟩:=ck_some.1 h
            refine zA [(1,.bp 1 0),(3,.own 8),(12,.ii g.1),(13,.ii st1.2),(16,.sl Y7 g.2),(17,.ii (g.2.length:Int)),(18,.ii (st2.2+1))] [(1,.box 24 [.ii g.1,.sl Y7 g.2]),(8,.arr 4 .bool (st2.1.set (g.2.getD st2.2.toNat (0,0,0,false)).2.2.1.toNat true))] ?_
            obtain rfl:=zj h
            exact ⟨_,rfl,zL [] [] []⟩
        simp only [hb23]
        as_aux_lemma =>
         obtain ⟨c30,h⟩:=ck_some.1 h
         obtain ⟨c31,h⟩:=ck_some.1 h
         refine adops_cut 6 (fun K' hK29=>?_)
         try dsimp only [y1,y2,y3,y4]
         simp only [go_sem,hb9,hb16,hb23]
         repeat with_reducible refine zN ?_
         refine hK29 _ ?_
         as_aux_lemma =>
          obtain ⟨c33,h⟩:=ck_some.1 h
          obtain ⟨c34,h⟩:=ck_some.1 h
          refine adops_cut 2 (fun K' hK32=>?_)
          try dsimp only [y1,y2,y3,y4]
          simp only [go_sem,hb9,hb16,hb23]
          repeat with_reducible refine zN ?_
          refine hK32 _ ?_
          refine adops_nil ?_
          refine ablock_n ?_
          refine athen_n ?_
          refine zV [(1,.bp 1 0),(3,.own 8),(12,.ii g.1),(13,.ii st1.2),(16,.sl Y7 g.2),(17,.ii (g.2.length:Int)),(18,.ii st2.2)] [(1,.box 24 [.ii g.1,.sl Y7 g.2]),(8,.arr 4 .bool (st2.1.set (g.2.getD st2.2.toNat (0,0,0,false)).2.2.1.toNat (st2.1.getD (g.2.getD st2.2.toNat (0,0,0,false)).1.toNat false)))] gt ?_
          as_aux_lemma =>
           refine AW.ops ?_
           obtain ⟨c35,h⟩:=ck_some.1 h
           refine zA [(1,.bp 1 0),(3,.own 8),(12,.ii g.1),(13,.ii st1.2),(16,.sl Y7 g.2),(17,.ii (g.2.length:Int)),(18,.ii (st2.2+1))] [(1,.box 24 [.ii g.1,.sl Y7 g.2]),(8,.arr 4 .bool (st2.1.set (g.2.getD st2.2.toNat (0,0,0,false)).2.2.1.toNat (st2.1.getD (g.2.getD st2.2.toNat (0,0,0,false)).1.toNat false)))] ?_
           obtain rfl:=zj h
           exact ⟨_,rfl,zL [] [] []⟩
    refine AW.exit ?_
    refine athen_e ?_
    obtain rfl:=zj h
    rw [← hd13 _ rfl] at ho12
    have h:=ho12
    refine athen_e ?_
    refine ablock_s ?_
    refine ablock_n ?_
    refine athen_n ?_
    exact AW.weaken (zL [] [] []) (hk_linealref07_reached_k2 _ h)
  refine AW.exit ?_
  refine athen_e ?_
  obtain rfl:=zj h
  rw [← hd6 _ rfl] at ho5
  have h:=ho5
  refine athen_e ?_
  refine ablock_s ?_
  refine athen_n ?_
  exact AW.weaken (zL [] [] []) (hk_linealref07_reached_k1 _ h)
theorem hc_progress_Holds (g:Int×(List (Int×Int×Int×Bool))) (claim:Int) (thread:Int) {r:Bool×Int} (h:progress_Holds g claim thread=some r):HC Try.prog 29 [] [.agg [.ii g.1,.sl Y7 g.2],.ii claim,.ii thread] [] (.tup [.bool r.1,.ii r.2]):=by
 unfold progress_Holds at h
 refine zH Try.func29 [.tmp 6,.tmp 7] 28 ?_
 refine zo ?_
 refine zB [(1,.ii claim),(2,.ii thread),(3,.bp 3 0)] [(3,.box 24 [.ii g.1,.sl Y7 g.2])] ?_
 refine zo ?_
 refine zS 3 [(13,.agg [.ii g.1,.sl Y7 g.2]),(14,.ii claim),(15,.ii thread)] [] ?_
 obtain ⟨v0,hv1,h⟩:=zw h
 rcases v0 with v0_2|v0_3|v0_4|v0_5
 ·try simp only at h
  refine zC [] [] (hc_progress_statementOf_a0 g claim thread hv1) [(16,.tup [.agg [.ii 0,.cv (.slice none 0 0),.cv (.nilFunc),.cv (.nilFunc)],.ii v0_2])] [] ?_
  refine zS 5 [(8,.bp 8 0),(18,.ii v0_2)] [(8,.box 85 [.ii 0,.cv (.slice none 0 0),.cv (.nilFunc),.cv (.nilFunc)])] ?_
  refine zB [(8,.bp 8 0),(9,.ii v0_2)] [(8,.box 85 [.ii 0,.cv (.slice none 0 0),.cv (.nilFunc),.cv (.nilFunc)])] ?_
  refine AW.seq ?_
  refine zo ?_
  refine zB [(8,.bp 8 0),(9,.ii v0_2),(20,.bool (!(decide (v0_2=0))))] [(8,.box 85 [.ii 0,.cv (.slice none 0 0),.cv (.nilFunc),.cv (.nilFunc)])] ?_
  refine zQ h (fun hb2 h=>?_) (fun hb2 h=>?_)
  ·refine zo ?_
   refine zB [(6,.bool false),(7,.ii v0_2)] [] ?_
   refine zr ?_
   obtain rfl:=zj h
   exact zR [] [] []
  refine zk ?_
  refine zo ?_
  cases h
 ·try simp only at h
  refine zC [] [] (hc_progress_statementOf_a1 g claim thread hv1) [(16,.tup [.agg [.ii v0_3.1,.sl Y7 v0_3.2,.fn (.func 94) [] [],.fn (.func 94) [] []],.ii 0])] [] ?_
  refine zS 5 [(8,.bp 8 0),(18,.ii 0)] [(8,.box 85 [.ii v0_3.1,.sl Y7 v0_3.2,.fn (.func 94) [] [],.fn (.func 94) [] []])] ?_
  refine zB [(8,.bp 8 0),(9,.ii 0)] [(8,.box 85 [.ii v0_3.1,.sl Y7 v0_3.2,.fn (.func 94) [] [],.fn (.func 94) [] []])] ?_
  refine AW.seq ?_
  refine zo ?_
  refine zB [(8,.bp 8 0),(9,.ii 0),(20,.bool false)] [(8,.box 85 [.ii v0_3.1,.sl Y7 v0_3.2,.fn (.func 94) [] [],.fn (.func 94) [] []])] ?_
  refine AW.cond (b:=false) rfl (fun hb3=>by cases hb3) (fun _=>?_)
  refine zk ?_
  refine zo ?_
  refine zS 1 [(23,.agg [.ii v0_3.1,.sl Y7 v0_3.2,.fn (.func 94) [] [],.fn (.func 94) [] []])] [] ?_
  obtain ⟨v0_6,hv4,h⟩:=zw h
  refine zC [] [] (hc_progress_statement_ranks v0_3.1 v0_3.2 hv4) [(24,.tup [.own 34000,.bool v0_6.2])] [(34000,.arr 3 (.int .i64) v0_6.1)] ?_
  refine zB [(11,.bool v0_6.2)] [] ?_
  refine zo ?_
  refine zB [(6,.bool v0_6.2),(7,.ii 0)] [] ?_
  refine AW.ret ?_
  obtain rfl:=zj h
  exact zR [] [] []
 ·try simp only at h
  refine zC [] [] (hc_progress_statementOf_a2 g claim thread hv1) [(16,.tup [.agg [.ii v0_4.1,.sl Y7 v0_4.2,.fn (.func 96) [] [.bp 26000 0],.fn (.func 95) [] [.bp 26000 0]],.ii 0])] [(26000,.box 3 [.ii thread])] ?_
  refine AO.weaken (s':=⟨fr [(16,.tup [.agg [.ii v0_4.1,.sl Y7 v0_4.2,.fn (.func 96) [] [.dp (.int .i64) thread 0],.fn (.func 95) [] [.dp (.int .i64) thread 0]],.ii 0])],hpGet [],gt⟩) (Wk.boxes [26000] rfl rfl (by (simp only [go_sem])<;>(with_reducible and_intros)<;>first|assumption|rfl|omega|(unfold maxLen; omega)) (by (simp only [go_sem])<;>(with_reducible and_intros)<;>first|assumption|rfl|omega|(unfold maxLen; omega))) ?_
  refine zS 5 [(8,.bp 8 0),(18,.ii 0)] [(8,.box 85 [.ii v0_4.1,.sl Y7 v0_4.2,.fn (.func 96) [] [.dp (.int .i64) thread 0],.fn (.func 95) [] [.dp (.int .i64) thread 0]])] ?_
  refine zB [(8,.bp 8 0),(9,.ii 0)] [(8,.box 85 [.ii v0_4.1,.sl Y7 v0_4.2,.fn (.func 96) [] [.dp (.int .i64) thread 0],.fn (.func 95) [] [.dp (.int .i64) thread 0]])] ?_
  refine AW.seq ?_
  refine zo ?_
  refine zB [(8,.bp 8 0),(9,.ii 0),(20,.bool false)] [(8,.box 85 [.ii v0_4.1,.sl Y7 v0_4.2,.fn (.func 96) [] [.dp (.int .i64) thread 0],.fn (.func 95) [] [.dp (.int .i64) thread 0]])] ?_
  refine AW.cond (b:=false) rfl (fun hb5=>by cases hb5) (fun _=>?_)
  refine zk ?_
  refine zo ?_
  refine zS 1 [(23,.agg [.ii v0_4.1,.sl Y7 v0_4.2,.fn (.func 96) [] [.dp (.int .i64) thread 0],.fn (.func 95) [] [.dp (.int .i64) thread 0]])] [] ?_
  obtain ⟨v0_7,hv6,h⟩:=zw h
  refine zC [] [] (hc_progress_statement_ranks_2 v0_4.1 v0_4.2 thread thread hv6) [(24,.tup [.own 34000,.bool v0_7.2])] [(34000,.arr 3 (.int .i64) v0_7.1)] ?_
  refine zB [(11,.bool v0_7.2)] [] ?_
  refine zo ?_
  refine zB [(6,.bool v0_7.2),(7,.ii 0)] [] ?_
  refine AW.ret ?_
  obtain rfl:=zj h
  exact zR [] [] []
 try simp only at h
 refine zC [] [] (hc_progress_statementOf_a3 g claim thread hv1) [(16,.tup [.agg [.ii v0_5.1,.sl Y7 v0_5.2,.fn (.func 95) [] [.bp 26000 0],.fn (.func 95) [] [.bp 26000 0]],.ii 0])] [(26000,.box 3 [.ii thread])] ?_
 refine AO.weaken (s':=⟨fr [(16,.tup [.agg [.ii v0_5.1,.sl Y7 v0_5.2,.fn (.func 95) [] [.dp (.int .i64) thread 0],.fn (.func 95) [] [.dp (.int .i64) thread 0]],.ii 0])],hpGet [],gt⟩) (Wk.boxes [26000] rfl rfl (by (simp only [go_sem])<;>(with_reducible and_intros)<;>first|assumption|rfl|omega|(unfold maxLen; omega)) (by (simp only [go_sem])<;>(with_reducible and_intros)<;>first|assumption|rfl|omega|(unfold maxLen; omega))) ?_
 refine zS 5 [(8,.bp 8 0),(18,.ii 0)] [(8,.box 85 [.ii v0_5.1,.sl Y7 v0_5.2,.fn (.func 95) [] [.dp (.int .i64) thread 0],.fn (.func 95) [] [.dp (.int .i64) thread 0]])] ?_
 refine zB [(8,.bp 8 0),(9,.ii 0)] [(8,.box 85 [.ii v0_5.1,.sl Y7 v0_5.2,.fn (.func 95) [] [.dp (.int .i64) thread 0],.fn (.func 95) [] [.dp (.int .i64) thread 0]])] ?_
 refine AW.seq ?_
 refine zo ?_
 refine zB [(8,.bp 8 0),(9,.ii 0),(20,.bool false)] [(8,.box 85 [.ii v0_5.1,.sl Y7 v0_5.2,.fn (.func 95) [] [.dp (.int .i64) thread 0],.fn (.func 95) [] [.dp (.int .i64) thread 0]])] ?_
 refine AW.cond (b:=false) rfl (fun hb7=>by cases hb7) (fun _=>?_)
 refine zk ?_
 refine zo ?_
 refine zS 1 [(23,.agg [.ii v0_5.1,.sl Y7 v0_5.2,.fn (.func 95) [] [.dp (.int .i64) thread 0],.fn (.func 95) [] [.dp (.int .i64) thread 0]])] [] ?_
 obtain ⟨v0_8,hv8,h⟩:=zw h
 refine zC [] [] (hc_progress_statement_ranks_3 v0_5.1 v0_5.2 thread thread hv8) [(24,.tup [.own 34000,.bool v0_8.2])] [(34000,.arr 3 (.int .i64) v0_8.1)] ?_
 refine zB [(11,.bool v0_8.2)] [] ?_
 refine zo ?_
 refine zB [(6,.bool v0_8.2),(7,.ii 0)] [] ?_
 refine AW.ret ?_
 obtain rfl:=zj h
 exact zR [] [] []
theorem hc_linealref07_asked (g:Int×(List (Int×Int×Int×Bool))) (claim:Int) (thread:Int) {r:Int} (h:linealref07_asked g claim thread=some r):HC Try.prog 73 [] [.agg [.ii g.1,.sl Y7 g.2],.ii claim,.ii thread] [] (.ii r):=by
 unfold linealref07_asked at h
 refine zH Try.func73 [.tmp 6] 29 ?_
 refine zo ?_
 refine zB [(1,.ii claim),(2,.ii thread),(3,.bp 3 0)] [(3,.box 24 [.ii g.1,.sl Y7 g.2])] ?_
 refine AW.seq ?_
 refine zo ?_
 refine zS 1 [(1,.ii claim),(2,.ii thread),(7,.agg [.ii g.1,.sl Y7 g.2])] [] ?_
 obtain ⟨v0,hv1,h⟩:=zw h
 refine zC [] [] (hc_linealref07_Valid g hv1) [(1,.ii claim),(2,.ii thread),(8,.bool v0)] [] ?_
 refine zB [(1,.ii claim),(2,.ii thread),(9,.bool (!v0))] [] ?_
 refine zQ h (fun hb2 h=>?_) (fun hb2 h=>?_)
 ·refine zo ?_
  refine zB [(6,.ii 70)] [] ?_
  refine zr ?_
  obtain rfl:=zj h
  exact zR [] [] []
 refine zk ?_
 refine AW.seq ?_
 refine zo ?_
 refine zS 3 [(1,.ii claim),(2,.ii thread),(12,.bool (decide (claim<0)))] [] ?_
 rcases zI h with ⟨hb3,h⟩|⟨hb3,h⟩
 ·refine zS 5 [(1,.ii claim),(2,.ii thread),(16,.bool true),(17,.cv (undef))] [] ?_
  refine zS 5 [(2,.ii thread),(21,.bool true),(22,.cv (undef))] [] ?_
  refine zS 4 [(21,.bool true),(24,.cv (undef)),(26,.cv (undef))] [] ?_
  refine zB [(28,.bool true)] [] ?_
  refine AW.cond (b:=true) rfl (fun _=>?_) (fun hb4=>by cases hb4)
  refine zo ?_
  refine zB [(6,.ii 2)] [] ?_
  refine zr ?_
  obtain rfl:=zj h
  exact zR [] [] []
 refine zS 4 [(1,.ii claim),(2,.ii thread),(16,.bool (decide (2<claim)))] [] ?_
 rcases zI h with ⟨hb5,h⟩|⟨hb5,h⟩
 ·refine zS 5 [(1,.ii claim),(2,.ii thread),(21,.bool true)] [] ?_
  refine zS 4 [(21,.bool true),(24,.cv (undef)),(25,.cv (undef))] [] ?_
  refine zB [(28,.bool true)] [] ?_
  refine AW.cond (b:=true) rfl (fun _=>?_) (fun hb6=>by cases hb6)
  refine zo ?_
  refine zB [(6,.ii 2)] [] ?_
  refine zr ?_
  obtain rfl:=zj h
  exact zR [] [] []
 refine zS 1 [(1,.ii claim),(2,.ii thread),(16,.bool false),(17,.ii thread)] [] ?_
 obtain ⟨v0_2,hv7,h⟩:=zw h
 refine zG [] [] (hc_linealref07_IsThread thread hv7) [(1,.ii claim),(2,.ii thread),(16,.bool false),(18,.bool v0_2)] [] ?_
 refine zS 3 [(1,.ii claim),(2,.ii thread),(21,.bool (!v0_2))] [] ?_
 rcases zI h with ⟨hb8,h⟩|⟨hb8,h⟩
 ·refine zS 4 [(21,.bool true),(24,.cv (undef)),(25,.cv (undef))] [] ?_
  refine zB [(28,.bool true)] [] ?_
  refine AW.cond (b:=true) rfl (fun _=>?_) (fun hb9=>by cases hb9)
  refine zo ?_
  refine zB [(6,.ii 2)] [] ?_
  refine zr ?_
  obtain rfl:=zj h
  exact zR [] [] []
 refine zS 3 [(2,.ii thread),(21,.bool false),(24,.bool (decide (claim=0)))] [] ?_
 rcases zI h with ⟨hb10,h⟩|⟨hb10,h⟩
 ·refine zB [(28,.bool (!(decide (thread=0))))] [] ?_
  refine zQ h (fun hb11 h=>?_) (fun hb11 h=>?_)
  ·refine zo ?_
   refine zB [(6,.ii 2)] [] ?_
   refine zr ?_
   obtain rfl:=zj h
   exact zR [] [] []
  refine zk ?_
  refine zo ?_
  refine zB [(6,.ii 0)] [] ?_
  refine AW.ret ?_
  obtain rfl:=zj h
  exact zR [] [] []
 refine zB [(28,.bool false)] [] ?_
 refine AW.cond (b:=false) rfl (fun hb12=>by cases hb12) (fun _=>?_)
 refine zk ?_
 refine zo ?_
 refine zB [(6,.ii 0)] [] ?_
 refine AW.ret ?_
 obtain rfl:=zj h
 exact zR [] [] []
theorem hc_linealref07_falls (m:Int×Int×Int×Bool) (claim:Int) (thread:Int) {r:Int×Bool} (h:linealref07_falls m claim thread=some r):HC Try.prog 77 [] [.agg [.ii m.1,.ii m.2.1,.ii m.2.2.1,.bool m.2.2.2],.ii claim,.ii thread] [] (.tup [.ii r.1,.bool r.2]):=by
 unfold linealref07_falls at h
 refine zH Try.func77 [.tmp 6,.tmp 7] 33 ?_
 refine zo ?_
 refine zB [(1,.ii claim),(2,.ii thread),(3,.bp 3 0)] [(3,.box 61 [.ii m.1,.ii m.2.1,.ii m.2.2.1,.bool m.2.2.2])] ?_
 refine zo ?_
 refine zB [(1,.ii claim),(3,.bp 3 0),(8,.bool (decide (m.2.1=thread)))] [(3,.box 61 [.ii m.1,.ii m.2.1,.ii m.2.2.1,.bool m.2.2.2])] ?_
 refine AW.seq ?_
 refine AW.block ?_
 refine zo ?_
 refine zB [(1,.ii claim),(3,.bp 3 0),(8,.bool (decide (m.2.1=thread))),(13,.bool (decide (claim=0)))] [(3,.box 61 [.ii m.1,.ii m.2.1,.ii m.2.2.1,.bool m.2.2.2])] ?_
 refine zQ h (fun hb1 h=>?_) (fun hb1 h=>?_)
 ·refine AW.seq ?_
  refine AW.draw tab_ok mixed_ok [] [] (by decide) (by kernel_rfl) ?_
  as_aux_lemma =>
   refine adops_cut 5 (fun K' hK2=>?_)
   try dsimp only [y1,y2,y3,y4]
   simp only [go_sem,hb1]
   repeat with_reducible refine zN ?_
   refine hK2 _ ?_
   refine adops_nil ?_
   refine athen_n ?_
   refine zV [(6,.ii 1),(7,.bool (!m.2.2.2))] [] gt ?_
   as_aux_lemma =>
    refine AW.ret ?_
    refine ablock_r ?_
    refine athen_r ?_
    obtain rfl:=zj h
    exact zR [] [] []
 refine zo ?_
 refine zB [(3,.bp 3 0),(8,.bool (decide (m.2.1=thread))),(19,.bool (decide (claim=2)))] [(3,.box 61 [.ii m.1,.ii m.2.1,.ii m.2.2.1,.bool m.2.2.2])] ?_
 refine zQ h (fun hb3 h=>?_) (fun hb3 h=>?_)
 ·refine AW.seq ?_
  refine AW.draw tab_ok mixed_ok [] [] (by decide) (by kernel_rfl) ?_
  as_aux_lemma =>
   refine adops_cut 2 (fun K' hK4=>?_)
   try dsimp only [y1,y2,y3,y4]
   simp only [go_sem,hb1,hb3]
   repeat with_reducible refine zN ?_
   refine hK4 _ ?_
   as_aux_lemma =>
    rcases zI h with ⟨hb5,h⟩|⟨hb5,h⟩
    ·simp only [hb5]
     as_aux_lemma =>
      refine adops_cut 6 (fun K' hK6=>?_)
      try dsimp only [y1,y2,y3,y4]
      simp only [go_sem,hb1,hb3,hb5]
      repeat with_reducible refine zN ?_
      refine hK6 _ ?_
      refine adops_nil ?_
      refine athen_n ?_
      refine zV [(6,.ii 1),(7,.bool (!m.2.2.2))] [] gt ?_
      as_aux_lemma =>
       refine AW.ret ?_
       refine ablock_r ?_
       refine athen_r ?_
       obtain rfl:=zj h
       exact zR [] [] []
    simp only [hb5]
    as_aux_lemma =>
     refine adops_cut 6 (fun K' hK7=>?_)
     try dsimp only [y1,y2,y3,y4]
     simp only [go_sem,hb1,hb3,hb5]
     repeat with_reducible refine zN ?_
     refine hK7 _ ?_
     refine adops_nil ?_
     refine athen_n ?_
     refine zV [(6,.ii 1),(7,.bool false)] [] gt ?_
     as_aux_lemma =>
      refine AW.ret ?_
      refine ablock_r ?_
      refine athen_r ?_
      obtain rfl:=zj h
      exact zR [] [] []
 refine zo ?_
 refine zB [(3,.bp 3 0),(28,.bool (decide (m.2.1=thread)))] [(3,.box 61 [.ii m.1,.ii m.2.1,.ii m.2.2.1,.bool m.2.2.2])] ?_
 refine zQ h (fun hb8 h=>?_) (fun hb8 h=>?_)
 ·refine AW.seq ?_
  refine AW.draw tab_ok mixed_ok [] [] (by decide) (by kernel_rfl) ?_
  as_aux_lemma =>
   refine adops_cut 5 (fun K' hK9=>?_)
   try dsimp only [y1,y2,y3,y4]
   simp only [go_sem,hb1,hb3,hb8]
   repeat with_reducible refine zN ?_
   refine hK9 _ ?_
   refine adops_nil ?_
   refine athen_n ?_
   refine zV [(6,.ii 1),(7,.bool (!m.2.2.2))] [] gt ?_
   as_aux_lemma =>
    refine AW.ret ?_
    refine ablock_r ?_
    refine athen_r ?_
    obtain rfl:=zj h
    exact zR [] [] []
 refine zm ?_
 refine athen_n ?_
 refine zo ?_
 refine zB [(6,.ii 0),(7,.bool true)] [] ?_
 refine AW.ret ?_
 obtain rfl:=zj h
 exact zR [] [] []
theorem hc_progress_statement_isRanks_1 (rank:Int) {r:Bool} (h:progress_statement_isRanks_1 rank=some r):HC Try.prog 98 [] [.ii rank] [] (.bool r):=by
 unfold progress_statement_isRanks_1 at h
 refine zH Try.func98 [.tmp 2] 6 ?_
 refine zo ?_
 refine zB [(0,.ii rank)] [] ?_
 refine zo ?_
 refine zS 1 [(3,.ii rank)] [] ?_
 obtain ⟨v0,hv1,h⟩:=zw h
 refine zC [] [] (hc_progress_isBelow rank 101 hv1) [(4,.bool v0)] [] ?_
 refine zB [(2,.bool (!v0))] [] ?_
 refine AW.ret ?_
 obtain rfl:=zj h
 exact zR [] [] []
theorem hc_slices_IndexFunc_7 (s:List Int) {r:Int} (h:slices_IndexFunc_7 s=some r):HC Try.prog 93 [] [.sl (.int .i64) s,.fn (.func 98) [] []] [] (.ii r):=by
 unfold slices_IndexFunc_7 at h
 refine zH Try.func93 [.tmp 4] 19 ?_
 refine zo ?_
 refine zB [(0,.sl (.int .i64) s),(1,.fn (.func 98) [] [])] [] ?_
 refine AW.have1 (fun _:Unit=>slices_IndexFunc_7_k1=some r) (fun _=>⟨fr [],hpGet [],gt⟩) (fun _ h=>?_) (fun hk_slices_IndexFunc_7_k1=>?_)
 ·as_aux_lemma =>
   unfold slices_IndexFunc_7_k1 at h
   refine zo ?_
   refine zB [(4,.ii (-1))] [] ?_
   refine AW.ret ?_
   obtain rfl:=zj h
   exact zR [] [] []
 refine AW.seq ?_
 refine zo ?_
 refine zB [(0,.sl (.int .i64) s),(1,.fn (.func 98) [] []),(7,.ii (s.length:Int)),(8,.ii 0)] [] ?_
 refine AW.block ?_
 obtain ⟨rv5,hw1,ho2⟩:=zw h
 refine AW.loopO (slices_IndexFunc_7_b1 s) (fun st1=>⟨fr [(0,.sl (.int .i64) s),(1,.fn (.func 98) [] []),(7,.ii (s.length:Int)),(8,.ii st1)],hpGet [],gt⟩) 0 hw1 (zL [] [] []) ?_
 as_aux_lemma =>
  intro st1 x4 h hd3
  unfold slices_IndexFunc_7_b1 at h
  refine zo ?_
  refine zB [(0,.sl (.int .i64) s),(1,.fn (.func 98) [] []),(7,.ii (s.length:Int)),(8,.ii st1),(9,.bool (decide (st1<(s.length:Int))))] [] ?_
  refine AW.seq ?_
  refine zQ h (fun hb6 h=>?_) (fun hb6 h=>?_)
  ·refine zk ?_
   refine AW.seq ?_
   refine AW.block ?_
   refine zo ?_
   refine zB [(0,.sl (.int .i64) s),(1,.fn (.func 98) [] []),(5,.ii st1),(7,.ii (s.length:Int)),(8,.ii st1)] [] ?_
   refine zo ?_
   obtain ⟨c7,h⟩:=ck_some.1 h
   obtain ⟨c8,h⟩:=ck_some.1 h
   refine zS 5 [(0,.sl (.int .i64) s),(1,.fn (.func 98) [] []),(5,.ii st1),(7,.ii (s.length:Int)),(8,.ii st1),(11,.fn (.func 98) [] []),(15,.ii (s.getD st1.toNat 0))] [] ?_
   obtain ⟨v0,hv9,h⟩:=zw h
   refine zC [] [] (hc_progress_statement_isRanks_1 (s.getD st1.toNat 0) hv9) [(0,.sl (.int .i64) s),(1,.fn (.func 98) [] []),(5,.ii st1),(7,.ii (s.length:Int)),(8,.ii st1),(16,.bool v0)] [] ?_
   refine zB [(0,.sl (.int .i64) s),(1,.fn (.func 98) [] []),(5,.ii st1),(7,.ii (s.length:Int)),(8,.ii st1),(16,.bool v0)] [] ?_
   refine zQ h (fun hb10 h=>?_) (fun hb10 h=>?_)
   ·refine zo ?_
    refine zB [(4,.ii st1)] [] ?_
    refine AW.ret ?_
    refine ablock_r ?_
    refine athen_r ?_
    obtain rfl:=zj h
    rw [← hd3 _ rfl] at ho2
    have h:=ho2
    try simp only at h
    refine athen_r ?_
    refine ablock_r ?_
    refine athen_r ?_
    obtain rfl:=zj h
    exact zR [] [] []
   refine zm ?_
   refine athen_n ?_
   refine AW.ops ?_
   obtain ⟨c11,h⟩:=ck_some.1 h
   refine zA [(0,.sl (.int .i64) s),(1,.fn (.func 98) [] []),(7,.ii (s.length:Int)),(8,.ii (st1+1))] [] ?_
   obtain rfl:=zj h
   exact ⟨_,rfl,zL [] [] []⟩
  refine AW.exit ?_
  refine athen_e ?_
  obtain rfl:=zj h
  rw [← hd3 _ rfl] at ho2
  have h:=ho2
  try simp only at h
  refine athen_e ?_
  refine ablock_s ?_
  refine athen_n ?_
  exact AW.weaken (zL [] [] []) (hk_slices_IndexFunc_7_k1 () h)
theorem hc_slices_ContainsFunc_2 (s:List Int) {r:Bool} (h:slices_ContainsFunc_2 s=some r):HC Try.prog 99 [] [.sl (.int .i64) s,.fn (.func 98) [] []] [] (.bool r):=by
 unfold slices_ContainsFunc_2 at h
 refine zH Try.func99 [.tmp 4] 9 ?_
 refine zo ?_
 refine zB [(0,.sl (.int .i64) s),(1,.fn (.func 98) [] [])] [] ?_
 refine zo ?_
 refine zS 2 [(5,.sl (.int .i64) s),(6,.fn (.func 98) [] [])] [] ?_
 obtain ⟨v0,hv1,h⟩:=zw h
 refine zC [] [] (hc_slices_IndexFunc_7 s hv1) [(7,.ii v0)] [] ?_
 refine zB [(4,.bool (decide (0≤v0)))] [] ?_
 refine AW.ret ?_
 obtain rfl:=zj h
 exact zR [] [] []
theorem hc_progress_statement_isRanks (s:Int) (s_2:List (Int×Int×Int×Bool)) (list:List Int) {r:Bool} (h:progress_statement_isRanks s s_2 list=some r):HC Try.prog 75 [] [.agg [.ii s,.sl Y7 s_2,.fn (.func 94) [] [],.fn (.func 94) [] []],.sl (.int .i64) list] [] (.bool r):=by
 unfold progress_statement_isRanks at h
 refine zH Try.func75 [.tmp 4] 18 ?_
 refine zo ?_
 refine zB [(1,.sl (.int .i64) list),(2,.bp 2 0)] [(2,.box 85 [.ii s,.sl Y7 s_2,.fn (.func 94) [] [],.fn (.func 94) [] []])] ?_
 refine zo ?_
 refine zB [(1,.sl (.int .i64) list),(2,.bp 2 0),(5,.fn (.func 98) [] [])] [(2,.box 85 [.ii s,.sl Y7 s_2,.fn (.func 94) [] [],.fn (.func 94) [] []])] ?_
 refine zo ?_
 refine zS 5 [(1,.sl (.int .i64) list),(5,.fn (.func 98) [] []),(7,.ii (list.length:Int)),(10,.ii s)] [] ?_
 refine zS 2 [(1,.sl (.int .i64) list),(5,.fn (.func 98) [] []),(12,.bool (decide ((list.length:Int)=s)))] [] ?_
 rcases zI h with ⟨hb1,h⟩|⟨hb1,h⟩
 ·refine zS 2 [(12,.bool true),(13,.sl (.int .i64) list),(14,.fn (.func 98) [] [])] [] ?_
  obtain ⟨v0,hv2,h⟩:=zw h
  refine zG [] [] (hc_slices_ContainsFunc_2 list hv2) [(12,.bool true),(15,.bool v0)] [] ?_
  refine zB [(4,.bool (!v0))] [] ?_
  refine AW.ret ?_
  obtain rfl:=zj h
  exact zR [] [] []
 refine zS 4 [(12,.bool false),(16,.cv (undef))] [] ?_
 refine zB [(4,.bool false)] [] ?_
 refine AW.ret ?_
 obtain rfl:=zj h
 exact zR [] [] []
theorem hc_progress_statement_isRanks_2 (s:Int) (s_2:List (Int×Int×Int×Bool)) (c0:Int) (c0_2:Int) (list:List Int) {r:Bool} (h:progress_statement_isRanks_2 s s_2 c0 c0_2 list=some r):HC Try.prog 75 [] [.agg [.ii s,.sl Y7 s_2,.fn (.func 96) [] [.dp (.int .i64) c0 0],.fn (.func 95) [] [.dp (.int .i64) c0_2 0]],.sl (.int .i64) list] [] (.bool r):=by
 unfold progress_statement_isRanks_2 at h
 refine zH Try.func75 [.tmp 4] 18 ?_
 refine zo ?_
 refine zB [(1,.sl (.int .i64) list),(2,.bp 2 0)] [(2,.box 85 [.ii s,.sl Y7 s_2,.fn (.func 96) [] [.dp (.int .i64) c0 0],.fn (.func 95) [] [.dp (.int .i64) c0_2 0]])] ?_
 refine zo ?_
 refine zB [(1,.sl (.int .i64) list),(2,.bp 2 0),(5,.fn (.func 98) [] [])] [(2,.box 85 [.ii s,.sl Y7 s_2,.fn (.func 96) [] [.dp (.int .i64) c0 0],.fn (.func 95) [] [.dp (.int .i64) c0_2 0]])] ?_
 refine zo ?_
 refine zS 5 [(1,.sl (.int .i64) list),(5,.fn (.func 98) [] []),(7,.ii (list.length:Int)),(10,.ii s)] [] ?_
 refine zS 2 [(1,.sl (.int .i64) list),(5,.fn (.func 98) [] []),(12,.bool (decide ((list.length:Int)=s)))] [] ?_
 rcases zI h with ⟨hb1,h⟩|⟨hb1,h⟩
 ·refine zS 2 [(12,.bool true),(13,.sl (.int .i64) list),(14,.fn (.func 98) [] [])] [] ?_
  obtain ⟨v0,hv2,h⟩:=zw h
  refine zG [] [] (hc_slices_ContainsFunc_2 list hv2) [(12,.bool true),(15,.bool v0)] [] ?_
  refine zB [(4,.bool (!v0))] [] ?_
  refine AW.ret ?_
  obtain rfl:=zj h
  exact zR [] [] []
 refine zS 4 [(12,.bool false),(16,.cv (undef))] [] ?_
 refine zB [(4,.bool false)] [] ?_
 refine AW.ret ?_
 obtain rfl:=zj h
 exact zR [] [] []
theorem hc_progress_statement_isRanks_3 (s:Int) (s_2:List (Int×Int×Int×Bool)) (c0:Int) (c0_2:Int) (list:List Int) {r:Bool} (h:progress_statement_isRanks_3 s s_2 c0 c0_2 list=some r):HC Try.prog 75 [] [.agg [.ii s,.sl Y7 s_2,.fn (.func 95) [] [.dp (.int .i64) c0 0],.fn (.func 95) [] [.dp (.int .i64) c0_2 0]],.sl (.int .i64) list] [] (.bool r):=by
 unfold progress_statement_isRanks_3 at h
 refine zH Try.func75 [.tmp 4] 18 ?_
 refine zo ?_
 refine zB [(1,.sl (.int .i64) list),(2,.bp 2 0)] [(2,.box 85 [.ii s,.sl Y7 s_2,.fn (.func 95) [] [.dp (.int .i64) c0 0],.fn (.func 95) [] [.dp (.int .i64) c0_2 0]])] ?_
 refine zo ?_
 refine zB [(1,.sl (.int .i64) list),(2,.bp 2 0),(5,.fn (.func 98) [] [])] [(2,.box 85 [.ii s,.sl Y7 s_2,.fn (.func 95) [] [.dp (.int .i64) c0 0],.fn (.func 95) [] [.dp (.int .i64) c0_2 0]])] ?_
 refine zo ?_
 refine zS 5 [(1,.sl (.int .i64) list),(5,.fn (.func 98) [] []),(7,.ii (list.length:Int)),(10,.ii s)] [] ?_
 refine zS 2 [(1,.sl (.int .i64) list),(5,.fn (.func 98) [] []),(12,.bool (decide ((list.length:Int)=s)))] [] ?_
 rcases zI h with ⟨hb1,h⟩|⟨hb1,h⟩
 ·refine zS 2 [(12,.bool true),(13,.sl (.int .i64) list),(14,.fn (.func 98) [] [])] [] ?_
  obtain ⟨v0,hv2,h⟩:=zw h
  refine zG [] [] (hc_slices_ContainsFunc_2 list hv2) [(12,.bool true),(15,.bool v0)] [] ?_
  refine zB [(4,.bool (!v0))] [] ?_
  refine AW.ret ?_
  obtain rfl:=zj h
  exact zR [] [] []
 refine zS 4 [(12,.bool false),(16,.cv (undef))] [] ?_
 refine zB [(4,.bool false)] [] ?_
 refine AW.ret ?_
 obtain rfl:=zj h
 exact zR [] [] []
end Go.Proofs.Yteclokkdgmacpaa
