import Derived.Test.YteclokkdgmacpaaGrp
import Derived.Test.YteclokkdgmacpaaSh7
import Derived.Test.YteclokkdgmacpaaAvd
import Derived.Test.YteclokkdgmacpaaKoc10
import Derived.Test.YteclokkdgmacpaaKoc11
import Derived.Test.YteclokkdgmacpaaKoc2
import Derived.Test.YteclokkdgmacpaaKoc7
import Derived.Test.YteclokkdgmacpaaKoc8
import Derived.Test.YteclokkdgmacpaaYa7
namespace Go.Proofs.Yteclokkdgmacpaa
open Go.RowKit
set_option linter.unusedSimpArgs false
set_option linter.unusedVariables false
set_option linter.constructorNameAsVariable false
set_option maxRecDepth 100000
set_option maxHeartbeats 40000000
theorem hc_progress_Refutes (g:Int×(List (Int×Int×Int×Bool))) (claim:Int) (thread:Int) (path:List Int) (circle:List Int) {r:Bool×Int} (h:progress_Refutes g claim thread path circle=some r):HC Try.prog 35 [] [.agg [.ii g.1,.sl Y7 g.2],.ii claim,.ii thread,.sl (.int .i64) path,.sl (.int .i64) circle] [] (.tup [.bool r.1,.ii r.2]):=by
 unfold progress_Refutes at h
 refine zH Try.func35 [.tmp 10,.tmp 11] 28 ?_
 refine zo ?_
 refine zB [(1,.ii claim),(2,.ii thread),(3,.sl (.int .i64) path),(4,.sl (.int .i64) circle),(5,.bp 5 0)] [(5,.box 24 [.ii g.1,.sl Y7 g.2])] ?_
 refine zo ?_
 refine zS 3 [(3,.sl (.int .i64) path),(4,.sl (.int .i64) circle),(15,.agg [.ii g.1,.sl Y7 g.2]),(16,.ii claim),(17,.ii thread)] [] ?_
 obtain ⟨v0,hv1,h⟩:=zw h
 rcases v0 with v0_2|v0_3|v0_4|v0_5
 ·try simp only at h
  refine zC [] [] (hc_progress_statementOf_a0 g claim thread hv1) [(3,.sl (.int .i64) path),(4,.sl (.int .i64) circle),(18,.tup [.agg [.ii 0,.cv (.slice none 0 0),.cv (.nilFunc),.cv (.nilFunc)],.ii v0_2])] [] ?_
  refine zS 5 [(3,.sl (.int .i64) path),(4,.sl (.int .i64) circle),(12,.bp 12 0),(20,.ii v0_2)] [(12,.box 85 [.ii 0,.cv (.slice none 0 0),.cv (.nilFunc),.cv (.nilFunc)])] ?_
  refine zB [(3,.sl (.int .i64) path),(4,.sl (.int .i64) circle),(12,.bp 12 0),(13,.ii v0_2)] [(12,.box 85 [.ii 0,.cv (.slice none 0 0),.cv (.nilFunc),.cv (.nilFunc)])] ?_
  refine AW.seq ?_
  refine zo ?_
  refine zB [(3,.sl (.int .i64) path),(4,.sl (.int .i64) circle),(12,.bp 12 0),(13,.ii v0_2),(22,.bool (!(decide (v0_2=0))))] [(12,.box 85 [.ii 0,.cv (.slice none 0 0),.cv (.nilFunc),.cv (.nilFunc)])] ?_
  refine zQ h (fun hb2 h=>?_) (fun hb2 h=>?_)
  ·refine zo ?_
   refine zB [(10,.bool false),(11,.ii v0_2)] [] ?_
   refine zr ?_
   obtain rfl:=zj h
   exact zR [] [] []
  refine zk ?_
  refine zo ?_
  cases h
 ·try simp only at h
  refine zC [] [] (hc_progress_statementOf_a1 g claim thread hv1) [(3,.sl (.int .i64) path),(4,.sl (.int .i64) circle),(18,.tup [.agg [.ii v0_3.1,.sl Y7 v0_3.2,.fn (.func 94) [] [],.fn (.func 94) [] []],.ii 0])] [] ?_
  refine zS 5 [(3,.sl (.int .i64) path),(4,.sl (.int .i64) circle),(12,.bp 12 0),(20,.ii 0)] [(12,.box 85 [.ii v0_3.1,.sl Y7 v0_3.2,.fn (.func 94) [] [],.fn (.func 94) [] []])] ?_
  refine zB [(3,.sl (.int .i64) path),(4,.sl (.int .i64) circle),(12,.bp 12 0),(13,.ii 0)] [(12,.box 85 [.ii v0_3.1,.sl Y7 v0_3.2,.fn (.func 94) [] [],.fn (.func 94) [] []])] ?_
  refine AW.seq ?_
  refine zo ?_
  refine zB [(3,.sl (.int .i64) path),(4,.sl (.int .i64) circle),(12,.bp 12 0),(13,.ii 0),(22,.bool false)] [(12,.box 85 [.ii v0_3.1,.sl Y7 v0_3.2,.fn (.func 94) [] [],.fn (.func 94) [] []])] ?_
  refine AW.cond (b:=false) rfl (fun hb3=>by cases hb3) (fun _=>?_)
  refine zk ?_
  refine zo ?_
  refine zS 3 [(24,.agg [.ii v0_3.1,.sl Y7 v0_3.2,.fn (.func 94) [] [],.fn (.func 94) [] []]),(25,.sl (.int .i64) path),(26,.sl (.int .i64) circle)] [] ?_
  obtain ⟨v0_6,hv4,h⟩:=zw h
  refine zC [] [] (hc_progress_statement_isLasso v0_3.1 v0_3.2 path circle hv4) [(27,.bool v0_6)] [] ?_
  refine zB [(10,.bool v0_6),(11,.ii 0)] [] ?_
  refine AW.ret ?_
  obtain rfl:=zj h
  exact zR [] [] []
 ·try simp only at h
  refine zC [] [] (hc_progress_statementOf_a2 g claim thread hv1) [(3,.sl (.int .i64) path),(4,.sl (.int .i64) circle),(18,.tup [.agg [.ii v0_4.1,.sl Y7 v0_4.2,.fn (.func 96) [] [.bp 28000 0],.fn (.func 95) [] [.bp 28000 0]],.ii 0])] [(28000,.box 3 [.ii thread])] ?_
  refine AO.weaken (s':=⟨fr [(3,.sl (.int .i64) path),(4,.sl (.int .i64) circle),(18,.tup [.agg [.ii v0_4.1,.sl Y7 v0_4.2,.fn (.func 96) [] [.dp (.int .i64) thread 0],.fn (.func 95) [] [.dp (.int .i64) thread 0]],.ii 0])],hpGet [],gt⟩) (Wk.boxes [28000] rfl rfl (by (simp only [go_sem])<;>(with_reducible and_intros)<;>first|assumption|rfl|omega|(unfold maxLen; omega)) (by (simp only [go_sem])<;>(with_reducible and_intros)<;>first|assumption|rfl|omega|(unfold maxLen; omega))) ?_
  refine zS 5 [(3,.sl (.int .i64) path),(4,.sl (.int .i64) circle),(12,.bp 12 0),(20,.ii 0)] [(12,.box 85 [.ii v0_4.1,.sl Y7 v0_4.2,.fn (.func 96) [] [.dp (.int .i64) thread 0],.fn (.func 95) [] [.dp (.int .i64) thread 0]])] ?_
  refine zB [(3,.sl (.int .i64) path),(4,.sl (.int .i64) circle),(12,.bp 12 0),(13,.ii 0)] [(12,.box 85 [.ii v0_4.1,.sl Y7 v0_4.2,.fn (.func 96) [] [.dp (.int .i64) thread 0],.fn (.func 95) [] [.dp (.int .i64) thread 0]])] ?_
  refine AW.seq ?_
  refine zo ?_
  refine zB [(3,.sl (.int .i64) path),(4,.sl (.int .i64) circle),(12,.bp 12 0),(13,.ii 0),(22,.bool false)] [(12,.box 85 [.ii v0_4.1,.sl Y7 v0_4.2,.fn (.func 96) [] [.dp (.int .i64) thread 0],.fn (.func 95) [] [.dp (.int .i64) thread 0]])] ?_
  refine AW.cond (b:=false) rfl (fun hb5=>by cases hb5) (fun _=>?_)
  refine zk ?_
  refine zo ?_
  refine zS 3 [(24,.agg [.ii v0_4.1,.sl Y7 v0_4.2,.fn (.func 96) [] [.dp (.int .i64) thread 0],.fn (.func 95) [] [.dp (.int .i64) thread 0]]),(25,.sl (.int .i64) path),(26,.sl (.int .i64) circle)] [] ?_
  obtain ⟨v0_7,hv6,h⟩:=zw h
  refine zC [] [] (hc_progress_statement_isLasso_v2 v0_4.1 v0_4.2 thread thread path circle hv6) [(27,.bool v0_7)] [] ?_
  refine zB [(10,.bool v0_7),(11,.ii 0)] [] ?_
  refine AW.ret ?_
  obtain rfl:=zj h
  exact zR [] [] []
 try simp only at h
 refine zC [] [] (hc_progress_statementOf_a3 g claim thread hv1) [(3,.sl (.int .i64) path),(4,.sl (.int .i64) circle),(18,.tup [.agg [.ii v0_5.1,.sl Y7 v0_5.2,.fn (.func 95) [] [.bp 28000 0],.fn (.func 95) [] [.bp 28000 0]],.ii 0])] [(28000,.box 3 [.ii thread])] ?_
 refine AO.weaken (s':=⟨fr [(3,.sl (.int .i64) path),(4,.sl (.int .i64) circle),(18,.tup [.agg [.ii v0_5.1,.sl Y7 v0_5.2,.fn (.func 95) [] [.dp (.int .i64) thread 0],.fn (.func 95) [] [.dp (.int .i64) thread 0]],.ii 0])],hpGet [],gt⟩) (Wk.boxes [28000] rfl rfl (by (simp only [go_sem])<;>(with_reducible and_intros)<;>first|assumption|rfl|omega|(unfold maxLen; omega)) (by (simp only [go_sem])<;>(with_reducible and_intros)<;>first|assumption|rfl|omega|(unfold maxLen; omega))) ?_
 refine zS 5 [(3,.sl (.int .i64) path),(4,.sl (.int .i64) circle),(12,.bp 12 0),(20,.ii 0)] [(12,.box 85 [.ii v0_5.1,.sl Y7 v0_5.2,.fn (.func 95) [] [.dp (.int .i64) thread 0],.fn (.func 95) [] [.dp (.int .i64) thread 0]])] ?_
 refine zB [(3,.sl (.int .i64) path),(4,.sl (.int .i64) circle),(12,.bp 12 0),(13,.ii 0)] [(12,.box 85 [.ii v0_5.1,.sl Y7 v0_5.2,.fn (.func 95) [] [.dp (.int .i64) thread 0],.fn (.func 95) [] [.dp (.int .i64) thread 0]])] ?_
 refine AW.seq ?_
 refine zo ?_
 refine zB [(3,.sl (.int .i64) path),(4,.sl (.int .i64) circle),(12,.bp 12 0),(13,.ii 0),(22,.bool false)] [(12,.box 85 [.ii v0_5.1,.sl Y7 v0_5.2,.fn (.func 95) [] [.dp (.int .i64) thread 0],.fn (.func 95) [] [.dp (.int .i64) thread 0]])] ?_
 refine AW.cond (b:=false) rfl (fun hb7=>by cases hb7) (fun _=>?_)
 refine zk ?_
 refine zo ?_
 refine zS 3 [(24,.agg [.ii v0_5.1,.sl Y7 v0_5.2,.fn (.func 95) [] [.dp (.int .i64) thread 0],.fn (.func 95) [] [.dp (.int .i64) thread 0]]),(25,.sl (.int .i64) path),(26,.sl (.int .i64) circle)] [] ?_
 obtain ⟨v0_8,hv8,h⟩:=zw h
 refine zC [] [] (hc_progress_statement_isLasso_3 v0_5.1 v0_5.2 thread thread path circle hv8) [(27,.bool v0_8)] [] ?_
 refine zB [(10,.bool v0_8),(11,.ii 0)] [] ?_
 refine AW.ret ?_
 obtain rfl:=zj h
 exact zR [] [] []
theorem hc_linealref07_Refutes (g:Int×(List (Int×Int×Int×Bool))) (claim:Int) (thread:Int) (path:List Int) (circle:List Int) {r:Bool×Int} (h:linealref07_Refutes g claim thread path circle=some r):HC Try.prog 36 [] [.agg [.ii g.1,.sl Y7 g.2],.ii claim,.ii thread,.sl (.int .i64) path,.sl (.int .i64) circle] [] (.tup [.bool r.1,.ii r.2]):=by
 unfold linealref07_Refutes at h
 refine zH Try.func36 [.tmp 10,.tmp 11] 115 ?_
 refine zo ?_
 refine zB [(1,.ii claim),(2,.ii thread),(3,.sl (.int .i64) path),(4,.sl (.int .i64) circle),(5,.bp 5 0)] [(5,.box 24 [.ii g.1,.sl Y7 g.2])] ?_
 refine AW.seq ?_
 refine zo ?_
 refine zS 3 [(1,.ii claim),(2,.ii thread),(3,.sl (.int .i64) path),(4,.sl (.int .i64) circle),(5,.bp 5 0),(19,.agg [.ii g.1,.sl Y7 g.2]),(20,.ii claim),(21,.ii thread)] [(5,.box 24 [.ii g.1,.sl Y7 g.2])] ?_
 obtain ⟨v0,hv1,h⟩:=zw h
 refine zC [] [] (hc_linealref07_asked g claim thread hv1) [(1,.ii claim),(2,.ii thread),(3,.sl (.int .i64) path),(4,.sl (.int .i64) circle),(5,.bp 5 0),(22,.ii v0)] [(5,.box 24 [.ii g.1,.sl Y7 g.2])] ?_
 refine zB [(1,.ii claim),(2,.ii thread),(3,.sl (.int .i64) path),(4,.sl (.int .i64) circle),(5,.bp 5 0),(12,.ii v0)] [(5,.box 24 [.ii g.1,.sl Y7 g.2])] ?_
 refine zo ?_
 refine zB [(1,.ii claim),(2,.ii thread),(3,.sl (.int .i64) path),(4,.sl (.int .i64) circle),(5,.bp 5 0),(12,.ii v0),(24,.bool (!(decide (v0=0))))] [(5,.box 24 [.ii g.1,.sl Y7 g.2])] ?_
 refine zQ h (fun hb2 h=>?_) (fun hb2 h=>?_)
 ·refine zo ?_
  refine zB [(10,.bool false),(11,.ii v0)] [] ?_
  refine zr ?_
  obtain rfl:=zj h
  exact zR [] [] []
 refine zk ?_
 refine AW.seq ?_
 refine zo ?_
 refine zS 2 [(1,.ii claim),(2,.ii thread),(3,.sl (.int .i64) path),(4,.sl (.int .i64) circle),(5,.bp 5 0),(26,.agg [.ii g.1,.sl Y7 g.2]),(27,.sl (.int .i64) path)] [(5,.box 24 [.ii g.1,.sl Y7 g.2])] ?_
 obtain ⟨v0_2,hv3,h⟩:=zw h
 refine zC [] [] (hc_linealref07_isPath g path hv3) [(1,.ii claim),(2,.ii thread),(3,.sl (.int .i64) path),(4,.sl (.int .i64) circle),(5,.bp 5 0),(28,.bool v0_2)] [(5,.box 24 [.ii g.1,.sl Y7 g.2])] ?_
 refine zS 2 [(1,.ii claim),(2,.ii thread),(3,.sl (.int .i64) path),(4,.sl (.int .i64) circle),(5,.bp 5 0),(30,.bool (!v0_2))] [(5,.box 24 [.ii g.1,.sl Y7 g.2])] ?_
 rcases zI h with ⟨hb4,h⟩|⟨hb4,h⟩
 ·refine zS 4 [(1,.ii claim),(2,.ii thread),(3,.sl (.int .i64) path),(4,.sl (.int .i64) circle),(5,.bp 5 0),(30,.bool true),(34,.cv (undef))] [(5,.box 24 [.ii g.1,.sl Y7 g.2])] ?_
  refine zS 5 [(1,.ii claim),(2,.ii thread),(3,.sl (.int .i64) path),(4,.sl (.int .i64) circle),(5,.bp 5 0),(36,.bool true),(39,.cv (undef))] [(5,.box 24 [.ii g.1,.sl Y7 g.2])] ?_
  refine zB [(1,.ii claim),(2,.ii thread),(3,.sl (.int .i64) path),(4,.sl (.int .i64) circle),(5,.bp 5 0),(40,.bool true)] [(5,.box 24 [.ii g.1,.sl Y7 g.2])] ?_
  refine AW.cond (b:=true) rfl (fun _=>?_) (fun hb5=>by cases hb5)
  refine zo ?_
  refine zB [(10,.bool false),(11,.ii 0)] [] ?_
  refine zr ?_
  obtain rfl:=zj h
  exact zR [] [] []
 refine zS 2 [(1,.ii claim),(2,.ii thread),(3,.sl (.int .i64) path),(4,.sl (.int .i64) circle),(5,.bp 5 0),(30,.bool false),(31,.agg [.ii g.1,.sl Y7 g.2]),(32,.sl (.int .i64) circle)] [(5,.box 24 [.ii g.1,.sl Y7 g.2])] ?_
 obtain ⟨v0_3,hv6,h⟩:=zw h
 refine zG [] [] (hc_linealref07_isPath g circle hv6) [(1,.ii claim),(2,.ii thread),(3,.sl (.int .i64) path),(4,.sl (.int .i64) circle),(5,.bp 5 0),(30,.bool false),(33,.bool v0_3)] [(5,.box 24 [.ii g.1,.sl Y7 g.2])] ?_
 refine zS 3 [(1,.ii claim),(2,.ii thread),(3,.sl (.int .i64) path),(4,.sl (.int .i64) circle),(5,.bp 5 0),(36,.bool (!v0_3))] [(5,.box 24 [.ii g.1,.sl Y7 g.2])] ?_
 rcases zI h with ⟨hb7,h⟩|⟨hb7,h⟩
 ·refine zB [(1,.ii claim),(2,.ii thread),(3,.sl (.int .i64) path),(4,.sl (.int .i64) circle),(5,.bp 5 0),(40,.bool true)] [(5,.box 24 [.ii g.1,.sl Y7 g.2])] ?_
  refine AW.cond (b:=true) rfl (fun _=>?_) (fun hb8=>by cases hb8)
  refine zo ?_
  refine zB [(10,.bool false),(11,.ii 0)] [] ?_
  refine zr ?_
  obtain rfl:=zj h
  exact zR [] [] []
 refine zB [(1,.ii claim),(2,.ii thread),(3,.sl (.int .i64) path),(4,.sl (.int .i64) circle),(5,.bp 5 0),(40,.bool (decide ((circle.length:Int)=0)))] [(5,.box 24 [.ii g.1,.sl Y7 g.2])] ?_
 refine zQ h (fun hb9 h=>?_) (fun hb9 h=>?_)
 ·refine zo ?_
  refine zB [(10,.bool false),(11,.ii 0)] [] ?_
  refine zr ?_
  obtain rfl:=zj h
  exact zR [] [] []
 refine zk ?_
 refine zo ?_
 refine zB [(1,.ii claim),(2,.ii thread),(3,.sl (.int .i64) path),(4,.sl (.int .i64) circle),(5,.bp 5 0),(13,.ii 0)] [(5,.box 24 [.ii g.1,.sl Y7 g.2])] ?_
 refine AW.have1 (fun b1:Int=>linealref07_Refutes_k1 g claim thread circle b1=some r) (fun b1=>⟨fr [(1,.ii claim),(2,.ii thread),(4,.sl (.int .i64) circle),(5,.bp 5 0),(13,.ii b1)],hpGet [(5,.box 24 [.ii g.1,.sl Y7 g.2])],gt⟩) (fun b1 h=>?_) (fun hk_linealref07_Refutes_k1=>?_)
 ·as_aux_lemma =>
   unfold linealref07_Refutes_k1 at h
   refine AW.seq ?_
   refine AW.seq ?_
   refine AW.draw tab_ok mixed_ok [] [] (by decide) (lex_fast (by kernel_rfl)) ?_
   as_aux_lemma =>
    obtain ⟨c11,h⟩:=ck_some.1 h
    obtain ⟨c12,h⟩:=ck_some.1 h
    obtain ⟨c13,h⟩:=ck_some.1 h
    refine adops_cut 6 (fun K' hK10=>?_)
    try dsimp only [y1,y2,y3,y4]
    simp only [go_sem,hb2,hb4,hb7,hb9]
    repeat with_reducible refine zN ?_
    refine hK10 _ ?_
    as_aux_lemma =>
     refine adops_cut 5 (fun K' hK14=>?_)
     try dsimp only [y1,y2,y3,y4]
     simp only [go_sem,hb2,hb4,hb7,hb9]
     repeat with_reducible refine zN ?_
     refine hK14 _ ?_
     as_aux_lemma =>
      rcases zI h with ⟨hb15,h⟩|⟨hb15,h⟩
      ·simp only [hb15]
       as_aux_lemma =>
        refine adops_cut 4 (fun K' hK16=>?_)
        try dsimp only [y1,y2,y3,y4]
        simp only [go_sem,hb2,hb4,hb7,hb9,hb15]
        repeat with_reducible refine zN ?_
        refine hK16 _ ?_
        as_aux_lemma =>
         refine adops_cut 4 (fun K' hK17=>?_)
         try dsimp only [y1,y2,y3,y4]
         simp only [go_sem,hb2,hb4,hb7,hb9,hb15]
         repeat with_reducible refine zN ?_
         refine hK17 _ ?_
         as_aux_lemma =>
          refine adops_cut 4 (fun K' hK18=>?_)
          try dsimp only [y1,y2,y3,y4]
          simp only [go_sem,hb2,hb4,hb7,hb9,hb15]
          repeat with_reducible refine zN ?_
          refine hK18 _ ?_
          as_aux_lemma =>
           refine adops_cut 2 (fun K' hK19=>?_)
           try dsimp only [y1,y2,y3,y4]
           simp only [go_sem,hb2,hb4,hb7,hb9,hb15]
           repeat with_reducible refine zN ?_
           refine hK19 _ ?_
           refine adops_nil ?_
           refine athen_n ?_
           refine zV [(1,.ii claim),(2,.ii thread),(4,.sl (.int .i64) circle),(5,.bp 5 0),(88,.bool true)] [(5,.box 24 [.ii g.1,.sl Y7 g.2])] gt ?_
           as_aux_lemma =>
            refine AW.cond (b:=true) rfl (fun _=>?_) (fun hb20=>by cases hb20)
            refine zo ?_
            refine zB [(10,.bool false),(11,.ii 0)] [] ?_
            refine zr ?_
            obtain rfl:=zj h
            exact zR [] [] []
      simp only [hb15]
      as_aux_lemma =>
       obtain ⟨c22,h⟩:=ck_some.1 h
       refine adops_cut 6 (fun K' hK21=>?_)
       try dsimp only [y1,y2,y3,y4]
       simp only [go_sem,hb2,hb4,hb7,hb9,hb15]
       repeat with_reducible refine zN ?_
       refine hK21 _ ?_
       as_aux_lemma =>
        obtain ⟨c24,h⟩:=ck_some.1 h
        obtain ⟨c25,h⟩:=ck_some.1 h
        obtain ⟨c26,h⟩:=ck_some.1 h
        obtain ⟨c27,h⟩:=ck_some.1 h
        refine adops_cut 6 (fun K' hK23=>?_)
        try dsimp only [y1,y2,y3,y4]
        simp only [go_sem,hb2,hb4,hb7,hb9,hb15]
        repeat with_reducible refine zN ?_
        refine hK23 _ ?_
        as_aux_lemma =>
         refine adops_cut 2 (fun K' hK28=>?_)
         try dsimp only [y1,y2,y3,y4]
         simp only [go_sem,hb2,hb4,hb7,hb9,hb15]
         repeat with_reducible refine zN ?_
         refine hK28 _ ?_
         refine adops_nil ?_
         refine athen_n ?_
         refine zV [(1,.ii claim),(2,.ii thread),(4,.sl (.int .i64) circle),(5,.bp 5 0),(88,.bool (!(decide ((g.2.getD (circle.getD ((circle.length:Int) - 1).toNat 0).toNat (0,0,0,false)).2.2.1=b1))))] [(5,.box 24 [.ii g.1,.sl Y7 g.2])] gt ?_
         as_aux_lemma =>
          refine zQ h (fun hb29 h=>?_) (fun hb29 h=>?_)
          ·refine zo ?_
           refine zB [(10,.bool false),(11,.ii 0)] [] ?_
           refine zr ?_
           obtain rfl:=zj h
           exact zR [] [] []
          refine zk ?_
          refine zo ?_
          refine zB [(1,.ii claim),(2,.ii thread),(4,.sl (.int .i64) circle),(5,.bp 5 0),(14,.bool false)] [(5,.box 24 [.ii g.1,.sl Y7 g.2])] ?_
          refine AW.have1 (fun b2:Bool=>linealref07_Refutes_k2 b2=some r) (fun b2=>⟨fr [(14,.bool b2)],hpGet [],gt⟩) (fun b2 h=>?_) (fun hk_linealref07_Refutes_k2=>?_)
          ·as_aux_lemma =>
            unfold linealref07_Refutes_k2 at h
            refine zo ?_
            refine zB [(10,.bool b2),(11,.ii 0)] [] ?_
            refine AW.ret ?_
            obtain rfl:=zj h
            exact zR [] [] []
          refine AW.seq ?_
          refine zo ?_
          refine zB [(1,.ii claim),(2,.ii thread),(5,.bp 5 0),(14,.bool false),(89,.sl (.int .i64) circle),(90,.ii (circle.length:Int)),(91,.ii 0)] [(5,.box 24 [.ii g.1,.sl Y7 g.2])] ?_
          refine AW.block ?_
          obtain ⟨rv34,hw30,ho31⟩:=zw h
          refine AW.loopO (linealref07_Refutes_b1 g claim thread circle) (fun st1=>⟨fr [(1,.ii claim),(2,.ii thread),(5,.bp 5 0),(14,.bool st1.1),(89,.sl (.int .i64) circle),(90,.ii (circle.length:Int)),(91,.ii st1.2)],hpGet [(5,.box 24 [.ii g.1,.sl Y7 g.2])],gt⟩) (false,0) hw30 (zL [] [] []) ?_
          as_aux_lemma =>
           intro st1 x33 h hd32
           unfold linealref07_Refutes_b1 at h
           refine zo ?_
           refine zB [(1,.ii claim),(2,.ii thread),(5,.bp 5 0),(14,.bool st1.1),(89,.sl (.int .i64) circle),(90,.ii (circle.length:Int)),(91,.ii st1.2),(92,.bool (decide (st1.2<(circle.length:Int))))] [(5,.box 24 [.ii g.1,.sl Y7 g.2])] ?_
           refine AW.seq ?_
           refine zQ h (fun hb35 h=>?_) (fun hb35 h=>?_)
           ·refine zk ?_
            refine AW.seq ?_
            refine AW.block ?_
            refine zo ?_
            obtain ⟨c36,h⟩:=ck_some.1 h
            obtain ⟨c37,h⟩:=ck_some.1 h
            refine zB [(1,.ii claim),(2,.ii thread),(5,.bp 5 0),(14,.bool st1.1),(16,.ii (circle.getD st1.2.toNat 0)),(89,.sl (.int .i64) circle),(90,.ii (circle.length:Int)),(91,.ii st1.2)] [(5,.box 24 [.ii g.1,.sl Y7 g.2])] ?_
            refine zo ?_
            obtain ⟨c38,h⟩:=ck_some.1 h
            obtain ⟨c39,h⟩:=ck_some.1 h
            refine zS 5 [(1,.ii claim),(2,.ii thread),(5,.bp 5 0),(14,.bool st1.1),(89,.sl (.int .i64) circle),(90,.ii (circle.length:Int)),(91,.ii st1.2),(100,.agg [.ii (g.2.getD (circle.getD st1.2.toNat 0).toNat (0,0,0,false)).1,.ii (g.2.getD (circle.getD st1.2.toNat 0).toNat (0,0,0,false)).2.1,.ii (g.2.getD (circle.getD st1.2.toNat 0).toNat (0,0,0,false)).2.2.1,.bool (g.2.getD (circle.getD st1.2.toNat 0).toNat (0,0,0,false)).2.2.2])] [(5,.box 24 [.ii g.1,.sl Y7 g.2])] ?_
            refine zS 2 [(1,.ii claim),(2,.ii thread),(5,.bp 5 0),(14,.bool st1.1),(89,.sl (.int .i64) circle),(90,.ii (circle.length:Int)),(91,.ii st1.2),(100,.agg [.ii (g.2.getD (circle.getD st1.2.toNat 0).toNat (0,0,0,false)).1,.ii (g.2.getD (circle.getD st1.2.toNat 0).toNat (0,0,0,false)).2.1,.ii (g.2.getD (circle.getD st1.2.toNat 0).toNat (0,0,0,false)).2.2.1,.bool (g.2.getD (circle.getD st1.2.toNat 0).toNat (0,0,0,false)).2.2.2]),(101,.ii claim),(102,.ii thread)] [(5,.box 24 [.ii g.1,.sl Y7 g.2])] ?_
            obtain ⟨v0_4,hv40,h⟩:=zw h
            refine zC [] [] (hc_linealref07_falls (g.2.getD (circle.getD st1.2.toNat 0).toNat (0,0,0,false)) claim thread hv40) [(1,.ii claim),(2,.ii thread),(5,.bp 5 0),(14,.bool st1.1),(89,.sl (.int .i64) circle),(90,.ii (circle.length:Int)),(91,.ii st1.2),(103,.tup [.ii v0_4.1,.bool v0_4.2])] [(5,.box 24 [.ii g.1,.sl Y7 g.2])] ?_
            refine zB [(1,.ii claim),(2,.ii thread),(5,.bp 5 0),(14,.bool st1.1),(17,.ii v0_4.1),(18,.bool v0_4.2),(89,.sl (.int .i64) circle),(90,.ii (circle.length:Int)),(91,.ii st1.2)] [(5,.box 24 [.ii g.1,.sl Y7 g.2])] ?_
            refine AW.seq ?_
            refine zo ?_
            refine zB [(1,.ii claim),(2,.ii thread),(5,.bp 5 0),(14,.bool st1.1),(17,.ii v0_4.1),(89,.sl (.int .i64) circle),(90,.ii (circle.length:Int)),(91,.ii st1.2),(107,.bool (!v0_4.2))] [(5,.box 24 [.ii g.1,.sl Y7 g.2])] ?_
            refine zQ h (fun hb41 h=>?_) (fun hb41 h=>?_)
            ·refine zo ?_
             refine zB [(10,.bool false),(11,.ii 0)] [] ?_
             refine zr ?_
             refine ablock_r ?_
             refine athen_r ?_
             obtain rfl:=zj h
             rw [← hd32 _ rfl] at ho31
             have h:=ho31
             try simp only at h
             refine athen_r ?_
             refine ablock_r ?_
             refine athen_r ?_
             obtain rfl:=zj h
             exact zR [] [] []
            refine zk ?_
            refine AW.ops ?_
            refine zS 2 [(1,.ii claim),(2,.ii thread),(5,.bp 5 0),(17,.ii v0_4.1),(89,.sl (.int .i64) circle),(90,.ii (circle.length:Int)),(91,.ii st1.2),(109,.bool st1.1)] [(5,.box 24 [.ii g.1,.sl Y7 g.2])] ?_
            rcases zI h with ⟨hb42,h⟩|⟨hb42,h⟩
            ·refine zA [(1,.ii claim),(2,.ii thread),(5,.bp 5 0),(14,.bool true),(89,.sl (.int .i64) circle),(90,.ii (circle.length:Int)),(91,.ii st1.2)] [(5,.box 24 [.ii g.1,.sl Y7 g.2])] ?_
             refine ablock_n ?_
             refine athen_n ?_
             refine AW.ops ?_
             obtain ⟨c43,h⟩:=ck_some.1 h
             refine zA [(1,.ii claim),(2,.ii thread),(5,.bp 5 0),(14,.bool true),(89,.sl (.int .i64) circle),(90,.ii (circle.length:Int)),(91,.ii (st1.2+1))] [(5,.box 24 [.ii g.1,.sl Y7 g.2])] ?_
             obtain rfl:=zj h
             exact ⟨_,rfl,zL [] [] []⟩
            refine zA [(1,.ii claim),(2,.ii thread),(5,.bp 5 0),(14,.bool (decide (0<v0_4.1))),(89,.sl (.int .i64) circle),(90,.ii (circle.length:Int)),(91,.ii st1.2)] [(5,.box 24 [.ii g.1,.sl Y7 g.2])] ?_
            refine ablock_n ?_
            refine athen_n ?_
            refine AW.ops ?_
            obtain ⟨c44,h⟩:=ck_some.1 h
            refine zA [(1,.ii claim),(2,.ii thread),(5,.bp 5 0),(14,.bool (decide (0<v0_4.1))),(89,.sl (.int .i64) circle),(90,.ii (circle.length:Int)),(91,.ii (st1.2+1))] [(5,.box 24 [.ii g.1,.sl Y7 g.2])] ?_
            obtain rfl:=zj h
            exact ⟨_,rfl,zL [] [] []⟩
           refine AW.exit ?_
           refine athen_e ?_
           obtain rfl:=zj h
           rw [← hd32 _ rfl] at ho31
           have h:=ho31
           try simp only at h
           refine athen_e ?_
           refine ablock_s ?_
           refine athen_n ?_
           exact AW.weaken (zL [] [] []) (hk_linealref07_Refutes_k2 _ h)
 refine AW.seq ?_
 refine zo ?_
 refine zB [(1,.ii claim),(2,.ii thread),(3,.sl (.int .i64) path),(4,.sl (.int .i64) circle),(5,.bp 5 0),(13,.ii 0),(43,.bool (decide (0<(path.length:Int))))] [(5,.box 24 [.ii g.1,.sl Y7 g.2])] ?_
 refine zQ h (fun hb45 h=>?_) (fun hb45 h=>?_)
 ·refine AW.seq ?_
  refine AW.seq ?_
  refine AW.draw tab_ok mixed_ok [] [] (by decide) (lex_fast (by kernel_rfl)) ?_
  as_aux_lemma =>
   obtain ⟨c47,h⟩:=ck_some.1 h
   obtain ⟨c48,h⟩:=ck_some.1 h
   obtain ⟨c49,h⟩:=ck_some.1 h
   refine adops_cut 6 (fun K' hK46=>?_)
   try dsimp only [y1,y2,y3,y4]
   simp only [go_sem,hb2,hb4,hb7,hb9,hb45]
   repeat with_reducible refine zN ?_
   refine hK46 _ ?_
   as_aux_lemma =>
    refine adops_cut 3 (fun K' hK50=>?_)
    try dsimp only [y1,y2,y3,y4]
    simp only [go_sem,hb2,hb4,hb7,hb9,hb45]
    repeat with_reducible refine zN ?_
    refine hK50 _ ?_
    refine adops_nil ?_
    refine athen_n ?_
    refine zV [(1,.ii claim),(2,.ii thread),(3,.sl (.int .i64) path),(4,.sl (.int .i64) circle),(5,.bp 5 0),(52,.bool (!(decide ((g.2.getD (path.getD 0 0).toNat (0,0,0,false)).1=0))))] [(5,.box 24 [.ii g.1,.sl Y7 g.2])] gt ?_
    as_aux_lemma =>
     refine zQ h (fun hb51 h=>?_) (fun hb51 h=>?_)
     ·refine zo ?_
      refine zB [(10,.bool false),(11,.ii 0)] [] ?_
      refine zr ?_
      refine athen_r ?_
      obtain rfl:=zj h
      exact zR [] [] []
     refine zk ?_
     refine AW.draw tab_ok mixed_ok [] [] (by decide) (lex_fast (by kernel_rfl)) ?_
     as_aux_lemma =>
      obtain ⟨c53,h⟩:=ck_some.1 h
      refine adops_cut 6 (fun K' hK52=>?_)
      try dsimp only [y1,y2,y3,y4]
      simp only [go_sem,hb2,hb4,hb7,hb9,hb45,hb51]
      repeat with_reducible refine zN ?_
      refine hK52 _ ?_
      as_aux_lemma =>
       obtain ⟨c55,h⟩:=ck_some.1 h
       obtain ⟨c56,h⟩:=ck_some.1 h
       obtain ⟨c57,h⟩:=ck_some.1 h
       obtain ⟨c58,h⟩:=ck_some.1 h
       refine adops_cut 6 (fun K' hK54=>?_)
       try dsimp only [y1,y2,y3,y4]
       simp only [go_sem,hb2,hb4,hb7,hb9,hb45,hb51]
       repeat with_reducible refine zN ?_
       refine hK54 _ ?_
       refine adops_nil ?_
       refine athen_n ?_
       refine zV [(1,.ii claim),(2,.ii thread),(4,.sl (.int .i64) circle),(5,.bp 5 0),(13,.ii (g.2.getD (path.getD ((path.length:Int) - 1).toNat 0).toNat (0,0,0,false)).2.2.1)] [(5,.box 24 [.ii g.1,.sl Y7 g.2])] gt ?_
       as_aux_lemma =>
        exact AW.weaken (zL [] [] []) (hk_linealref07_Refutes_k1 _ h)
 refine zk ?_
 exact AW.weaken (zL [] [] []) (hk_linealref07_Refutes_k1 _ h)
theorem hc_progress_graph_paths_2 (g:Int×(List (Int×Int×Int×Bool))) (from0:Int) {r:Unit} (h:progress_graph_paths_2 g from0=some r):HC Try.prog 89 [] [.agg [.ii g.1,.sl Y7 g.2],.ii from0,.fn (.func 94) [] []] [(2000,.box 3 [.ii from0]),(2001,.box 69 [.ii g.1,.sl Y7 g.2]),(2002,.box 81 [.fn (.func 94) [] []])] (.fn (.func 108) [] [.bp 2000 0,.bp 2001 0,.bp 2002 0]):=by
 unfold progress_graph_paths_2 at h
 refine zH Try.func89 [.tmp 6] 8 ?_
 refine zo ?_
 refine zB [(3,.bp 3 0),(4,.bp 4 0),(5,.bp 5 0)] [(3,.box 69 [.ii g.1,.sl Y7 g.2]),(4,.box 3 [.ii from0]),(5,.box 81 [.fn (.func 94) [] []])] ?_
 refine zo ?_
 refine zB [(6,.fn (.func 108) [] [.bp 4 0,.bp 3 0,.bp 5 0])] [(3,.box 69 [.ii g.1,.sl Y7 g.2]),(4,.box 3 [.ii from0]),(5,.box 81 [.fn (.func 94) [] []])] ?_
 refine AW.ret ?_
 obtain rfl:=zj h
 exact zR [] [] [(2000,4),(2001,3),(2002,5)]
end Go.Proofs.Yteclokkdgmacpaa
