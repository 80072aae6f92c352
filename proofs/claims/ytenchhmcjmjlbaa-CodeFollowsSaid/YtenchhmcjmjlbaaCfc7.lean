import Derived.Test.YtenchhmcjmjlbaaCkp
import Derived.Test.YtenchhmcjmjlbaaShk
import Derived.Test.YtenchhmcjmjlbaaAvd
namespace Go.Proofs.Ytenchhmcjmjlbaa
open Go.RowKit
set_option linter.unusedSimpArgs false
set_option linter.unusedVariables false
set_option linter.constructorNameAsVariable false
set_option maxRecDepth 100000
set_option maxHeartbeats 40000000
theorem a0J (t:Int) (p:List (List (Int×Int×Int×Int))) (p_2:List (List Int)) (p_3:List Int) (p_4:Int) (p_5:Int) (p_6:Int) (p_7:Int) (p_8:List (Int×Int×Bool×Int×Int×Int×Int×Int)) (p_9:ZH) (p_10:List Int) {r:(List (Int×Int×Bool×Int×Int×Int×Int×Int))×Int×Int×Int×ZH×(List Int)} (h:o9 t p p_2 p_3 p_4 p_5 p_6 p_7 p_8 p_9 p_10=some r):HC Try.prog 83 [(1000,.box 97 [.sl (.sl Y4) p,.sl (.sl .i) p_2,.sl .i p_3,.own 1001,.ii p_4,.ii p_5,.ii p_6,.ii p_7,.own 1002,.own 1003]),(1001,.arr 161 Y2 p_8),(1002,.arr 68 Y0 p_9),(1003,.arr 3 .i p_10)] [.bp 1000 0,.ii t] [(1000,.box 97 [.sl (.sl Y4) p,.sl (.sl .i) p_2,.sl .i p_3,.own 1001,.ii (p_4+1),.ii r.2.1,.ii r.2.2.1,.ii r.2.2.2.1,.own 2000,.own 2001]),(1001,.arr 161 Y2 r.1),(2000,.arr 68 Y0 r.2.2.2.2.1),(2001,.arr 3 .i r.2.2.2.2.2)] (.tup []):=by
 unfold o9 at h
 refine zH Try.func83 [] 285 ?_
 refine zo ?_
 refine zS 5 [(0,.bp 1000 0),(1,.ii t),(14,.own 1001),(15,.ii t)] [(1000,.box 97 [.sl (.sl Y4) p,.sl (.sl .i) p_2,.sl .i p_3,.own 1001,.ii p_4,.ii p_5,.ii p_6,.ii p_7,.own 1002,.own 1003]),(1001,.arr 161 Y2 p_8),(1002,.arr 68 Y0 p_9),(1003,.arr 3 .i p_10)] ?_
 obtain ⟨c1,h⟩:=b5.1 h
 obtain ⟨c2,h⟩:=b5.1 h
 refine zB [(0,.bp 1000 0),(1,.ii t),(4,.ap 1001 8 t.toNat 0)] [(1000,.box 97 [.sl (.sl Y4) p,.sl (.sl .i) p_2,.sl .i p_3,.own 1001,.ii p_4,.ii p_5,.ii p_6,.ii p_7,.own 1002,.own 1003]),(1001,.arr 161 Y2 p_8),(1002,.arr 68 Y0 p_9),(1003,.arr 3 .i p_10)] ?_
 refine zo ?_
 refine zB [(0,.bp 1000 0),(1,.ii t),(4,.ap 1001 8 t.toNat 0),(5,.ii p_4)] [(1000,.box 97 [.sl (.sl Y4) p,.sl (.sl .i) p_2,.sl .i p_3,.own 1001,.ii p_4,.ii p_5,.ii p_6,.ii p_7,.own 1002,.own 1003]),(1001,.arr 161 Y2 p_8),(1002,.arr 68 Y0 p_9),(1003,.arr 3 .i p_10)] ?_
 refine zo ?_
 obtain ⟨c3,h⟩:=b5.1 h
 refine zS 5 [(0,.bp 1000 0),(1,.ii t),(4,.ap 1001 8 t.toNat 0),(5,.ii p_4),(21,.bp 1000 0),(25,.ii (p_4+1))] [(1000,.box 97 [.sl (.sl Y4) p,.sl (.sl .i) p_2,.sl .i p_3,.own 1001,.ii p_4,.ii p_5,.ii p_6,.ii p_7,.own 1002,.own 1003]),(1001,.arr 161 Y2 p_8),(1002,.arr 68 Y0 p_9),(1003,.arr 3 .i p_10)] ?_
 refine zB [(0,.bp 1000 0),(1,.ii t),(4,.ap 1001 8 t.toNat 0),(5,.ii p_4)] [(1000,.box 97 [.sl (.sl Y4) p,.sl (.sl .i) p_2,.sl .i p_3,.own 1001,.ii (p_4+1),.ii p_5,.ii p_6,.ii p_7,.own 1002,.own 1003]),(1001,.arr 161 Y2 p_8),(1002,.arr 68 Y0 p_9),(1003,.arr 3 .i p_10)] ?_
 refine AW.have1 (fun b1:(List (Int×Int×Bool×Int×Int×Int×Int×Int))×ZH×(List Int)=>l8 t p p_3 p_4 p_5 p_6 p_7 b1=some r) (fun b1=>⟨fr [(0,.bp 1000 0),(4,.ap 1001 8 t.toNat 0),(5,.ii p_4)],b8 [(72,.arr 68 Y0 b1.2.1),(81,.arr 3 .i b1.2.2),(1000,.box 97 [.sl (.sl Y4) p,.sl (.sl .i) p_2,.sl .i p_3,.own 1001,.ii (p_4+1),.ii p_5,.ii p_6,.ii p_7,.own 72,.own 81]),(1001,.arr 161 Y2 b1.1)],gt⟩) (fun b1 h=>?_) (fun hk_linealref08_Play_Step_2_k1=>?_)
 ·as_aux_lemma =>
   unfold l8 at h
   refine AW.seq ?_
   refine AW.draw m8 l6 [] [] (by decide) (n6 (by kernel_rfl)) ?_
   as_aux_lemma =>
    refine b9 6 (fun K' hK4=>?_)
    try dsimp only [y1,y2,y3,y4]
    simp only [go_sem]
    repeat with_reducible refine zN ?_
    refine hK4 _ ?_
    as_aux_lemma =>
     obtain ⟨c6,h⟩:=b5.1 h
     obtain ⟨c7,h⟩:=b5.1 h
     obtain ⟨c8,h⟩:=b5.1 h
     obtain ⟨c9,h⟩:=b5.1 h
     refine b9 6 (fun K' hK5=>?_)
     try dsimp only [y1,y2,y3,y4]
     simp only [go_sem]
     repeat with_reducible refine zN ?_
     refine hK5 _ ?_
     refine g6 ?_
     refine f7 ?_
     refine zV [(0,.bp 1000 0),(4,.ap 1001 8 t.toNat 0),(5,.ii p_4),(6,.ii (b1.2.1.getD (b1.1.getD t.toNat (0,0,false,0,0,0,0,0)).2.2.2.1.toNat (0,0,0,0,0,0)).2.2.1)] [(72,.arr 68 Y0 b1.2.1),(81,.arr 3 .i b1.2.2),(1000,.box 97 [.sl (.sl Y4) p,.sl (.sl .i) p_2,.sl .i p_3,.own 1001,.ii (p_4+1),.ii p_5,.ii p_6,.ii p_7,.own 72,.own 81]),(1001,.arr 161 Y2 b1.1)] gt ?_
     as_aux_lemma =>
      refine zo ?_
      obtain ⟨c10,h⟩:=b5.1 h
      refine zB [(0,.bp 1000 0),(4,.ap 1001 8 t.toNat 0),(5,.ii p_4),(6,.ii (b1.2.1.getD (b1.1.getD t.toNat (0,0,false,0,0,0,0,0)).2.2.2.1.toNat (0,0,0,0,0,0)).2.2.1),(7,.ii (b1.1.getD t.toNat (0,0,false,0,0,0,0,0)).2.1)] [(72,.arr 68 Y0 b1.2.1),(81,.arr 3 .i b1.2.2),(1000,.box 97 [.sl (.sl Y4) p,.sl (.sl .i) p_2,.sl .i p_3,.own 1001,.ii (p_4+1),.ii p_5,.ii p_6,.ii p_7,.own 72,.own 81]),(1001,.arr 161 Y2 b1.1)] ?_
      refine zo ?_
      refine zS 5 [(0,.bp 1000 0),(4,.ap 1001 8 t.toNat 0),(5,.ii p_4),(6,.ii (b1.2.1.getD (b1.1.getD t.toNat (0,0,false,0,0,0,0,0)).2.2.2.1.toNat (0,0,0,0,0,0)).2.2.1),(7,.ii (b1.1.getD t.toNat (0,0,false,0,0,0,0,0)).2.1),(102,.sl (.sl Y4) p),(103,.ii (b1.2.1.getD (b1.1.getD t.toNat (0,0,false,0,0,0,0,0)).2.2.2.1.toNat (0,0,0,0,0,0)).2.2.1)] [(72,.arr 68 Y0 b1.2.1),(81,.arr 3 .i b1.2.2),(1000,.box 97 [.sl (.sl Y4) p,.sl (.sl .i) p_2,.sl .i p_3,.own 1001,.ii (p_4+1),.ii p_5,.ii p_6,.ii p_7,.own 72,.own 81]),(1001,.arr 161 Y2 b1.1)] ?_
      obtain ⟨c11,h⟩:=b5.1 h
      obtain ⟨c12,h⟩:=b5.1 h
      obtain ⟨c13,h⟩:=b5.1 h
      obtain ⟨c14,h⟩:=b5.1 h
      refine zS 5 [(0,.bp 1000 0),(4,.ap 1001 8 t.toNat 0),(5,.ii p_4),(6,.ii (b1.2.1.getD (b1.1.getD t.toNat (0,0,false,0,0,0,0,0)).2.2.2.1.toNat (0,0,0,0,0,0)).2.2.1),(7,.ii (b1.1.getD t.toNat (0,0,false,0,0,0,0,0)).2.1),(108,.agg [.ii ((p.getD (b1.2.1.getD (b1.1.getD t.toNat (0,0,false,0,0,0,0,0)).2.2.2.1.toNat (0,0,0,0,0,0)).2.2.1.toNat []).getD (b1.1.getD t.toNat (0,0,false,0,0,0,0,0)).2.1.toNat (0,0,0,0)).1,.ii ((p.getD (b1.2.1.getD (b1.1.getD t.toNat (0,0,false,0,0,0,0,0)).2.2.2.1.toNat (0,0,0,0,0,0)).2.2.1.toNat []).getD (b1.1.getD t.toNat (0,0,false,0,0,0,0,0)).2.1.toNat (0,0,0,0)).2.1,.ii ((p.getD (b1.2.1.getD (b1.1.getD t.toNat (0,0,false,0,0,0,0,0)).2.2.2.1.toNat (0,0,0,0,0,0)).2.2.1.toNat []).getD (b1.1.getD t.toNat (0,0,false,0,0,0,0,0)).2.1.toNat (0,0,0,0)).2.2.1,.ii ((p.getD (b1.2.1.getD (b1.1.getD t.toNat (0,0,false,0,0,0,0,0)).2.2.2.1.toNat (0,0,0,0,0,0)).2.2.1.toNat []).getD (b1.1.getD t.toNat (0,0,false,0,0,0,0,0)).2.1.toNat (0,0,0,0)).2.2.2])] [(72,.arr 68 Y0 b1.2.1),(81,.arr 3 .i b1.2.2),(1000,.box 97 [.sl (.sl Y4) p,.sl (.sl .i) p_2,.sl .i p_3,.own 1001,.ii (p_4+1),.ii p_5,.ii p_6,.ii p_7,.own 72,.own 81]),(1001,.arr 161 Y2 b1.1)] ?_
      refine zB [(0,.bp 1000 0),(4,.ap 1001 8 t.toNat 0),(5,.ii p_4),(6,.ii (b1.2.1.getD (b1.1.getD t.toNat (0,0,false,0,0,0,0,0)).2.2.2.1.toNat (0,0,0,0,0,0)).2.2.1),(7,.ii (b1.1.getD t.toNat (0,0,false,0,0,0,0,0)).2.1),(8,.bp 8 0)] [(8,.box 74 [.ii ((p.getD (b1.2.1.getD (b1.1.getD t.toNat (0,0,false,0,0,0,0,0)).2.2.2.1.toNat (0,0,0,0,0,0)).2.2.1.toNat []).getD (b1.1.getD t.toNat (0,0,false,0,0,0,0,0)).2.1.toNat (0,0,0,0)).1,.ii ((p.getD (b1.2.1.getD (b1.1.getD t.toNat (0,0,false,0,0,0,0,0)).2.2.2.1.toNat (0,0,0,0,0,0)).2.2.1.toNat []).getD (b1.1.getD t.toNat (0,0,false,0,0,0,0,0)).2.1.toNat (0,0,0,0)).2.1,.ii ((p.getD (b1.2.1.getD (b1.1.getD t.toNat (0,0,false,0,0,0,0,0)).2.2.2.1.toNat (0,0,0,0,0,0)).2.2.1.toNat []).getD (b1.1.getD t.toNat (0,0,false,0,0,0,0,0)).2.1.toNat (0,0,0,0)).2.2.1,.ii ((p.getD (b1.2.1.getD (b1.1.getD t.toNat (0,0,false,0,0,0,0,0)).2.2.2.1.toNat (0,0,0,0,0,0)).2.2.1.toNat []).getD (b1.1.getD t.toNat (0,0,false,0,0,0,0,0)).2.1.toNat (0,0,0,0)).2.2.2]),(72,.arr 68 Y0 b1.2.1),(81,.arr 3 .i b1.2.2),(1000,.box 97 [.sl (.sl Y4) p,.sl (.sl .i) p_2,.sl .i p_3,.own 1001,.ii (p_4+1),.ii p_5,.ii p_6,.ii p_7,.own 72,.own 81]),(1001,.arr 161 Y2 b1.1)] ?_
      refine zo ?_
      obtain ⟨c15,h⟩:=b5.1 h
      refine zS 5 [(0,.bp 1000 0),(4,.ap 1001 8 t.toNat 0),(5,.ii p_4),(6,.ii (b1.2.1.getD (b1.1.getD t.toNat (0,0,false,0,0,0,0,0)).2.2.2.1.toNat (0,0,0,0,0,0)).2.2.1),(7,.ii (b1.1.getD t.toNat (0,0,false,0,0,0,0,0)).2.1),(8,.bp 8 0),(111,.ii ((b1.1.getD t.toNat (0,0,false,0,0,0,0,0)).2.1+1)),(113,.ap 1001 8 t.toNat 1)] [(8,.box 74 [.ii ((p.getD (b1.2.1.getD (b1.1.getD t.toNat (0,0,false,0,0,0,0,0)).2.2.2.1.toNat (0,0,0,0,0,0)).2.2.1.toNat []).getD (b1.1.getD t.toNat (0,0,false,0,0,0,0,0)).2.1.toNat (0,0,0,0)).1,.ii ((p.getD (b1.2.1.getD (b1.1.getD t.toNat (0,0,false,0,0,0,0,0)).2.2.2.1.toNat (0,0,0,0,0,0)).2.2.1.toNat []).getD (b1.1.getD t.toNat (0,0,false,0,0,0,0,0)).2.1.toNat (0,0,0,0)).2.1,.ii ((p.getD (b1.2.1.getD (b1.1.getD t.toNat (0,0,false,0,0,0,0,0)).2.2.2.1.toNat (0,0,0,0,0,0)).2.2.1.toNat []).getD (b1.1.getD t.toNat (0,0,false,0,0,0,0,0)).2.1.toNat (0,0,0,0)).2.2.1,.ii ((p.getD (b1.2.1.getD (b1.1.getD t.toNat (0,0,false,0,0,0,0,0)).2.2.2.1.toNat (0,0,0,0,0,0)).2.2.1.toNat []).getD (b1.1.getD t.toNat (0,0,false,0,0,0,0,0)).2.1.toNat (0,0,0,0)).2.2.2]),(72,.arr 68 Y0 b1.2.1),(81,.arr 3 .i b1.2.2),(1000,.box 97 [.sl (.sl Y4) p,.sl (.sl .i) p_2,.sl .i p_3,.own 1001,.ii (p_4+1),.ii p_5,.ii p_6,.ii p_7,.own 72,.own 81]),(1001,.arr 161 Y2 b1.1)] ?_
      obtain ⟨c16,h⟩:=b5.1 h
      refine zB [(0,.bp 1000 0),(4,.ap 1001 8 t.toNat 0),(5,.ii p_4),(6,.ii (b1.2.1.getD (b1.1.getD t.toNat (0,0,false,0,0,0,0,0)).2.2.2.1.toNat (0,0,0,0,0,0)).2.2.1),(7,.ii (b1.1.getD t.toNat (0,0,false,0,0,0,0,0)).2.1),(8,.bp 8 0)] [(8,.box 74 [.ii ((p.getD (b1.2.1.getD (b1.1.getD t.toNat (0,0,false,0,0,0,0,0)).2.2.2.1.toNat (0,0,0,0,0,0)).2.2.1.toNat []).getD (b1.1.getD t.toNat (0,0,false,0,0,0,0,0)).2.1.toNat (0,0,0,0)).1,.ii ((p.getD (b1.2.1.getD (b1.1.getD t.toNat (0,0,false,0,0,0,0,0)).2.2.2.1.toNat (0,0,0,0,0,0)).2.2.1.toNat []).getD (b1.1.getD t.toNat (0,0,false,0,0,0,0,0)).2.1.toNat (0,0,0,0)).2.1,.ii ((p.getD (b1.2.1.getD (b1.1.getD t.toNat (0,0,false,0,0,0,0,0)).2.2.2.1.toNat (0,0,0,0,0,0)).2.2.1.toNat []).getD (b1.1.getD t.toNat (0,0,false,0,0,0,0,0)).2.1.toNat (0,0,0,0)).2.2.1,.ii ((p.getD (b1.2.1.getD (b1.1.getD t.toNat (0,0,false,0,0,0,0,0)).2.2.2.1.toNat (0,0,0,0,0,0)).2.2.1.toNat []).getD (b1.1.getD t.toNat (0,0,false,0,0,0,0,0)).2.1.toNat (0,0,0,0)).2.2.2]),(72,.arr 68 Y0 b1.2.1),(81,.arr 3 .i b1.2.2),(1000,.box 97 [.sl (.sl Y4) p,.sl (.sl .i) p_2,.sl .i p_3,.own 1001,.ii (p_4+1),.ii p_5,.ii p_6,.ii p_7,.own 72,.own 81]),(1001,.arr 161 Y2 (b1.1.set t.toNat ((b1.1.getD t.toNat (0,0,false,0,0,0,0,0)).1,((b1.1.getD t.toNat (0,0,false,0,0,0,0,0)).2.1+1),(b1.1.getD t.toNat (0,0,false,0,0,0,0,0)).2.2)))] ?_
      refine zo ?_
      refine zB [(0,.bp 1000 0),(4,.ap 1001 8 t.toNat 0),(5,.ii p_4),(6,.ii (b1.2.1.getD (b1.1.getD t.toNat (0,0,false,0,0,0,0,0)).2.2.2.1.toNat (0,0,0,0,0,0)).2.2.1),(7,.ii (b1.1.getD t.toNat (0,0,false,0,0,0,0,0)).2.1),(8,.bp 8 0),(9,.ap 1001 8 t.toNat 4)] [(8,.box 74 [.ii ((p.getD (b1.2.1.getD (b1.1.getD t.toNat (0,0,false,0,0,0,0,0)).2.2.2.1.toNat (0,0,0,0,0,0)).2.2.1.toNat []).getD (b1.1.getD t.toNat (0,0,false,0,0,0,0,0)).2.1.toNat (0,0,0,0)).1,.ii ((p.getD (b1.2.1.getD (b1.1.getD t.toNat (0,0,false,0,0,0,0,0)).2.2.2.1.toNat (0,0,0,0,0,0)).2.2.1.toNat []).getD (b1.1.getD t.toNat (0,0,false,0,0,0,0,0)).2.1.toNat (0,0,0,0)).2.1,.ii ((p.getD (b1.2.1.getD (b1.1.getD t.toNat (0,0,false,0,0,0,0,0)).2.2.2.1.toNat (0,0,0,0,0,0)).2.2.1.toNat []).getD (b1.1.getD t.toNat (0,0,false,0,0,0,0,0)).2.1.toNat (0,0,0,0)).2.2.1,.ii ((p.getD (b1.2.1.getD (b1.1.getD t.toNat (0,0,false,0,0,0,0,0)).2.2.2.1.toNat (0,0,0,0,0,0)).2.2.1.toNat []).getD (b1.1.getD t.toNat (0,0,false,0,0,0,0,0)).2.1.toNat (0,0,0,0)).2.2.2]),(72,.arr 68 Y0 b1.2.1),(81,.arr 3 .i b1.2.2),(1000,.box 97 [.sl (.sl Y4) p,.sl (.sl .i) p_2,.sl .i p_3,.own 1001,.ii (p_4+1),.ii p_5,.ii p_6,.ii p_7,.own 72,.own 81]),(1001,.arr 161 Y2 (b1.1.set t.toNat ((b1.1.getD t.toNat (0,0,false,0,0,0,0,0)).1,((b1.1.getD t.toNat (0,0,false,0,0,0,0,0)).2.1+1),(b1.1.getD t.toNat (0,0,false,0,0,0,0,0)).2.2)))] ?_
      refine AW.have1 (fun b2:(List (Int×Int×Bool×Int×Int×Int×Int×Int))×Int×Int×Int×ZH=>f8 t p_3 p_4 b1 b2=some r) (fun b2=>⟨fr [(0,.bp 1000 0),(4,.ap 1001 8 t.toNat 0),(5,.ii p_4),(6,.ii (b1.2.1.getD (b1.1.getD t.toNat (0,0,false,0,0,0,0,0)).2.2.2.1.toNat (0,0,0,0,0,0)).2.2.1),(7,.ii (b1.1.getD t.toNat (0,0,false,0,0,0,0,0)).2.1)],b8 [(72,.arr 68 Y0 b2.2.2.2.2),(81,.arr 3 .i b1.2.2),(1000,.box 97 [.sl (.sl Y4) p,.sl (.sl .i) p_2,.sl .i p_3,.own 1001,.ii (p_4+1),.ii b2.2.1,.ii b2.2.2.1,.ii b2.2.2.2.1,.own 72,.own 81]),(1001,.arr 161 Y2 b2.1)],gt⟩) (fun b2 h=>?_) (fun hk_linealref08_Play_Step_2_k2=>?_)
      ·as_aux_lemma =>
        unfold f8 at h
        refine zo ?_
        refine zS 5 [(0,.bp 1000 0),(4,.ap 1001 8 t.toNat 0),(5,.ii p_4),(6,.ii (b1.2.1.getD (b1.1.getD t.toNat (0,0,false,0,0,0,0,0)).2.2.2.1.toNat (0,0,0,0,0,0)).2.2.1),(7,.ii (b1.1.getD t.toNat (0,0,false,0,0,0,0,0)).2.1),(257,.ii (b1.2.1.getD (b1.1.getD t.toNat (0,0,false,0,0,0,0,0)).2.2.2.1.toNat (0,0,0,0,0,0)).2.2.1),(261,.sl .i p_3)] [(72,.arr 68 Y0 b2.2.2.2.2),(81,.arr 3 .i b1.2.2),(1000,.box 97 [.sl (.sl Y4) p,.sl (.sl .i) p_2,.sl .i p_3,.own 1001,.ii (p_4+1),.ii b2.2.1,.ii b2.2.2.1,.ii b2.2.2.2.1,.own 72,.own 81]),(1001,.arr 161 Y2 b2.1)] ?_
        refine zS 3 [(0,.bp 1000 0),(4,.ap 1001 8 t.toNat 0),(5,.ii p_4),(6,.ii (b1.2.1.getD (b1.1.getD t.toNat (0,0,false,0,0,0,0,0)).2.2.2.1.toNat (0,0,0,0,0,0)).2.2.1),(7,.ii (b1.1.getD t.toNat (0,0,false,0,0,0,0,0)).2.1),(264,.bool (decide ((b1.2.1.getD (b1.1.getD t.toNat (0,0,false,0,0,0,0,0)).2.2.2.1.toNat (0,0,0,0,0,0)).2.2.1<(p_3.length:Int))))] [(72,.arr 68 Y0 b2.2.2.2.2),(81,.arr 3 .i b1.2.2),(1000,.box 97 [.sl (.sl Y4) p,.sl (.sl .i) p_2,.sl .i p_3,.own 1001,.ii (p_4+1),.ii b2.2.1,.ii b2.2.2.1,.ii b2.2.2.2.1,.own 72,.own 81]),(1001,.arr 161 Y2 b2.1)] ?_
        rcases zI h with ⟨hb17,h⟩|⟨hb17,h⟩
        ·refine zS 5 [(0,.bp 1000 0),(4,.ap 1001 8 t.toNat 0),(5,.ii p_4),(7,.ii (b1.1.getD t.toNat (0,0,false,0,0,0,0,0)).2.1),(264,.bool true),(268,.sl .i p_3),(269,.ii (b1.2.1.getD (b1.1.getD t.toNat (0,0,false,0,0,0,0,0)).2.2.2.1.toNat (0,0,0,0,0,0)).2.2.1)] [(72,.arr 68 Y0 b2.2.2.2.2),(81,.arr 3 .i b1.2.2),(1000,.box 97 [.sl (.sl Y4) p,.sl (.sl .i) p_2,.sl .i p_3,.own 1001,.ii (p_4+1),.ii b2.2.1,.ii b2.2.2.1,.ii b2.2.2.2.1,.own 72,.own 81]),(1001,.arr 161 Y2 b2.1)] ?_
         obtain ⟨c18,h⟩:=b5.1 h
         obtain ⟨c19,h⟩:=b5.1 h
         refine zB [(0,.bp 1000 0),(4,.ap 1001 8 t.toNat 0),(5,.ii p_4),(274,.bool (decide ((p_3.getD (b1.2.1.getD (b1.1.getD t.toNat (0,0,false,0,0,0,0,0)).2.2.2.1.toNat (0,0,0,0,0,0)).2.2.1.toNat 0)=(b1.1.getD t.toNat (0,0,false,0,0,0,0,0)).2.1)))] [(72,.arr 68 Y0 b2.2.2.2.2),(81,.arr 3 .i b1.2.2),(1000,.box 97 [.sl (.sl Y4) p,.sl (.sl .i) p_2,.sl .i p_3,.own 1001,.ii (p_4+1),.ii b2.2.1,.ii b2.2.2.1,.ii b2.2.2.2.1,.own 72,.own 81]),(1001,.arr 161 Y2 b2.1)] ?_
         refine zQ h (fun hb20 h=>?_) (fun hb20 h=>?_)
         ·refine AW.draw m8 l6 [(10,[81])] [] (by decide) (n6 (by kernel_rfl)) ?_
          as_aux_lemma =>
           refine b9 6 (fun K' hK21=>?_)
           try dsimp only [y1,y2,y3,y4]
           simp only [go_sem,hb17,hb20]
           repeat with_reducible refine zN ?_
           refine hK21 _ ?_
           as_aux_lemma =>
            obtain ⟨c23,h⟩:=b5.1 h
            obtain ⟨c24,h⟩:=b5.1 h
            obtain ⟨c25,h⟩:=b5.1 h
            obtain ⟨c26,h⟩:=b5.1 h
            refine b9 5 (fun K' hK22=>?_)
            try dsimp only [y1,y2,y3,y4]
            simp only [go_sem,hb17,hb20]
            repeat with_reducible refine zN ?_
            refine hK22 _ ?_
            refine g6 ?_
            obtain rfl:=zj h
            exact zR [] [] [(2000,72),(2001,81)]
         refine AW.skip ?_
         obtain rfl:=zj h
         exact zR [] [] [(2000,72),(2001,81)]
        refine zS 4 [(0,.bp 1000 0),(4,.ap 1001 8 t.toNat 0),(5,.ii p_4),(6,.ii (b1.2.1.getD (b1.1.getD t.toNat (0,0,false,0,0,0,0,0)).2.2.2.1.toNat (0,0,0,0,0,0)).2.2.1),(7,.ii (b1.1.getD t.toNat (0,0,false,0,0,0,0,0)).2.1),(264,.bool false),(268,.cv (undef))] [(72,.arr 68 Y0 b2.2.2.2.2),(81,.arr 3 .i b1.2.2),(1000,.box 97 [.sl (.sl Y4) p,.sl (.sl .i) p_2,.sl .i p_3,.own 1001,.ii (p_4+1),.ii b2.2.1,.ii b2.2.2.1,.ii b2.2.2.2.1,.own 72,.own 81]),(1001,.arr 161 Y2 b2.1)] ?_
        refine zS 4 [(0,.bp 1000 0),(4,.ap 1001 8 t.toNat 0),(5,.ii p_4),(264,.bool false),(271,.cv (undef)),(272,.cv (undef))] [(72,.arr 68 Y0 b2.2.2.2.2),(81,.arr 3 .i b1.2.2),(1000,.box 97 [.sl (.sl Y4) p,.sl (.sl .i) p_2,.sl .i p_3,.own 1001,.ii (p_4+1),.ii b2.2.1,.ii b2.2.2.1,.ii b2.2.2.2.1,.own 72,.own 81]),(1001,.arr 161 Y2 b2.1)] ?_
        refine zB [(0,.bp 1000 0),(4,.ap 1001 8 t.toNat 0),(5,.ii p_4),(274,.bool false)] [(72,.arr 68 Y0 b2.2.2.2.2),(81,.arr 3 .i b1.2.2),(1000,.box 97 [.sl (.sl Y4) p,.sl (.sl .i) p_2,.sl .i p_3,.own 1001,.ii (p_4+1),.ii b2.2.1,.ii b2.2.2.1,.ii b2.2.2.2.1,.own 72,.own 81]),(1001,.arr 161 Y2 b2.1)] ?_
        refine AW.cond (b:=false) rfl (fun hb27=>by cases hb27) (fun _=>?_)
        refine AW.skip ?_
        obtain rfl:=zj h
        exact zR [] [] [(2000,72),(2001,81)]
      refine AW.seq ?_
      refine zo ?_
      refine zB [(0,.bp 1000 0),(4,.ap 1001 8 t.toNat 0),(5,.ii p_4),(6,.ii (b1.2.1.getD (b1.1.getD t.toNat (0,0,false,0,0,0,0,0)).2.2.2.1.toNat (0,0,0,0,0,0)).2.2.1),(7,.ii (b1.1.getD t.toNat (0,0,false,0,0,0,0,0)).2.1),(8,.bp 8 0),(9,.ap 1001 8 t.toNat 4),(118,.ii ((p.getD (b1.2.1.getD (b1.1.getD t.toNat (0,0,false,0,0,0,0,0)).2.2.2.1.toNat (0,0,0,0,0,0)).2.2.1.toNat []).getD (b1.1.getD t.toNat (0,0,false,0,0,0,0,0)).2.1.toNat (0,0,0,0)).1)] [(8,.box 74 [.ii ((p.getD (b1.2.1.getD (b1.1.getD t.toNat (0,0,false,0,0,0,0,0)).2.2.2.1.toNat (0,0,0,0,0,0)).2.2.1.toNat []).getD (b1.1.getD t.toNat (0,0,false,0,0,0,0,0)).2.1.toNat (0,0,0,0)).1,.ii ((p.getD (b1.2.1.getD (b1.1.getD t.toNat (0,0,false,0,0,0,0,0)).2.2.2.1.toNat (0,0,0,0,0,0)).2.2.1.toNat []).getD (b1.1.getD t.toNat (0,0,false,0,0,0,0,0)).2.1.toNat (0,0,0,0)).2.1,.ii ((p.getD (b1.2.1.getD (b1.1.getD t.toNat (0,0,false,0,0,0,0,0)).2.2.2.1.toNat (0,0,0,0,0,0)).2.2.1.toNat []).getD (b1.1.getD t.toNat (0,0,false,0,0,0,0,0)).2.1.toNat (0,0,0,0)).2.2.1,.ii ((p.getD (b1.2.1.getD (b1.1.getD t.toNat (0,0,false,0,0,0,0,0)).2.2.2.1.toNat (0,0,0,0,0,0)).2.2.1.toNat []).getD (b1.1.getD t.toNat (0,0,false,0,0,0,0,0)).2.1.toNat (0,0,0,0)).2.2.2]),(72,.arr 68 Y0 b1.2.1),(81,.arr 3 .i b1.2.2),(1000,.box 97 [.sl (.sl Y4) p,.sl (.sl .i) p_2,.sl .i p_3,.own 1001,.ii (p_4+1),.ii p_5,.ii p_6,.ii p_7,.own 72,.own 81]),(1001,.arr 161 Y2 (b1.1.set t.toNat ((b1.1.getD t.toNat (0,0,false,0,0,0,0,0)).1,((b1.1.getD t.toNat (0,0,false,0,0,0,0,0)).2.1+1),(b1.1.getD t.toNat (0,0,false,0,0,0,0,0)).2.2)))] ?_
      refine AW.block ?_
      refine zo ?_
      refine zB [(0,.bp 1000 0),(4,.ap 1001 8 t.toNat 0),(5,.ii p_4),(6,.ii (b1.2.1.getD (b1.1.getD t.toNat (0,0,false,0,0,0,0,0)).2.2.2.1.toNat (0,0,0,0,0,0)).2.2.1),(7,.ii (b1.1.getD t.toNat (0,0,false,0,0,0,0,0)).2.1),(8,.bp 8 0),(9,.ap 1001 8 t.toNat 4),(118,.ii ((p.getD (b1.2.1.getD (b1.1.getD t.toNat (0,0,false,0,0,0,0,0)).2.2.2.1.toNat (0,0,0,0,0,0)).2.2.1.toNat []).getD (b1.1.getD t.toNat (0,0,false,0,0,0,0,0)).2.1.toNat (0,0,0,0)).1),(119,.bool (decide (((p.getD (b1.2.1.getD (b1.1.getD t.toNat (0,0,false,0,0,0,0,0)).2.2.2.1.toNat (0,0,0,0,0,0)).2.2.1.toNat []).getD (b1.1.getD t.toNat (0,0,false,0,0,0,0,0)).2.1.toNat (0,0,0,0)).1=1)))] [(8,.box 74 [.ii ((p.getD (b1.2.1.getD (b1.1.getD t.toNat (0,0,false,0,0,0,0,0)).2.2.2.1.toNat (0,0,0,0,0,0)).2.2.1.toNat []).getD (b1.1.getD t.toNat (0,0,false,0,0,0,0,0)).2.1.toNat (0,0,0,0)).1,.ii ((p.getD (b1.2.1.getD (b1.1.getD t.toNat (0,0,false,0,0,0,0,0)).2.2.2.1.toNat (0,0,0,0,0,0)).2.2.1.toNat []).getD (b1.1.getD t.toNat (0,0,false,0,0,0,0,0)).2.1.toNat (0,0,0,0)).2.1,.ii ((p.getD (b1.2.1.getD (b1.1.getD t.toNat (0,0,false,0,0,0,0,0)).2.2.2.1.toNat (0,0,0,0,0,0)).2.2.1.toNat []).getD (b1.1.getD t.toNat (0,0,false,0,0,0,0,0)).2.1.toNat (0,0,0,0)).2.2.1,.ii ((p.getD (b1.2.1.getD (b1.1.getD t.toNat (0,0,false,0,0,0,0,0)).2.2.2.1.toNat (0,0,0,0,0,0)).2.2.1.toNat []).getD (b1.1.getD t.toNat (0,0,false,0,0,0,0,0)).2.1.toNat (0,0,0,0)).2.2.2]),(72,.arr 68 Y0 b1.2.1),(81,.arr 3 .i b1.2.2),(1000,.box 97 [.sl (.sl Y4) p,.sl (.sl .i) p_2,.sl .i p_3,.own 1001,.ii (p_4+1),.ii p_5,.ii p_6,.ii p_7,.own 72,.own 81]),(1001,.arr 161 Y2 (b1.1.set t.toNat ((b1.1.getD t.toNat (0,0,false,0,0,0,0,0)).1,((b1.1.getD t.toNat (0,0,false,0,0,0,0,0)).2.1+1),(b1.1.getD t.toNat (0,0,false,0,0,0,0,0)).2.2)))] ?_
      refine zQ h (fun hb28 h=>?_) (fun hb28 h=>?_)
      ·refine AW.draw m8 l6 [(12,[1001])] [] (by decide) (n6 (by kernel_rfl)) ?_
       as_aux_lemma =>
        refine b9 6 (fun K' hK29=>?_)
        try dsimp only [y1,y2,y3,y4]
        simp only [go_sem,hb28]
        repeat with_reducible refine zN ?_
        refine hK29 _ ?_
        as_aux_lemma =>
         obtain ⟨c31,h⟩:=b5.1 h
         obtain ⟨c32,h⟩:=b5.1 h
         refine b9 2 (fun K' hK30=>?_)
         try dsimp only [y1,y2,y3,y4]
         simp only [go_sem,hb28]
         repeat with_reducible refine zN ?_
         refine hK30 _ ?_
         as_aux_lemma =>
          rcases Bool.eq_false_or_eq_true (decide (((p.getD (b1.2.1.getD (b1.1.getD t.toNat (0,0,false,0,0,0,0,0)).2.2.2.1.toNat (0,0,0,0,0,0)).2.2.1.toNat []).getD (b1.1.getD t.toNat (0,0,false,0,0,0,0,0)).2.1.toNat (0,0,0,0)).2.2.1=0)) with hb33|hb33
          ·rw [if_pos hb33] at h
           have hz34:((p.getD (b1.2.1.getD (b1.1.getD t.toNat (0,0,false,0,0,0,0,0)).2.2.2.1.toNat (0,0,0,0,0,0)).2.2.1.toNat []).getD (b1.1.getD t.toNat (0,0,false,0,0,0,0,0)).2.1.toNat (0,0,0,0)).2.2.1=0:=by simpa using hb33
           obtain ⟨c36,h⟩:=b5.1 h
           obtain ⟨c37,h⟩:=b5.1 h
           obtain ⟨c38,h⟩:=b5.1 h
           obtain ⟨c39,h⟩:=b5.1 h
           have hx40:(4+((p.getD (b1.2.1.getD (b1.1.getD t.toNat (0,0,false,0,0,0,0,0)).2.2.2.1.toNat (0,0,0,0,0,0)).2.2.1.toNat []).getD (b1.1.getD t.toNat (0,0,false,0,0,0,0,0)).2.1.toNat (0,0,0,0)).2.1.toNat*1)<8:=j9 c39
           refine b9 5 (fun K' hK35=>?_)
           try dsimp only [y1,y2,y3,y4]
           simp only [go_sem,hb28,hb33,hz34,c39]
           repeat with_reducible refine zN ?_
           refine hK35 _ ?_
           refine g6 ?_
           refine i6 ?_
           refine f7 ?_
           refine zV [(0,.bp 1000 0),(4,.ap 1001 8 t.toNat 0),(5,.ii p_4),(6,.ii (b1.2.1.getD (b1.1.getD t.toNat (0,0,false,0,0,0,0,0)).2.2.2.1.toNat (0,0,0,0,0,0)).2.2.1),(7,.ii (b1.1.getD t.toNat (0,0,false,0,0,0,0,0)).2.1)] [(72,.arr 68 Y0 b1.2.1),(81,.arr 3 .i b1.2.2),(1000,.box 97 [.sl (.sl Y4) p,.sl (.sl .i) p_2,.sl .i p_3,.own 1001,.ii (p_4+1),.ii p_5,.ii p_6,.ii p_7,.own 72,.own 81]),(1001,.arr 161 Y2 ((b1.1.set t.toNat ((b1.1.getD t.toNat (0,0,false,0,0,0,0,0)).1,((b1.1.getD t.toNat (0,0,false,0,0,0,0,0)).2.1+1),(b1.1.getD t.toNat (0,0,false,0,0,0,0,0)).2.2)).set t.toNat (f9 Y2 ((b1.1.set t.toNat ((b1.1.getD t.toNat (0,0,false,0,0,0,0,0)).1,((b1.1.getD t.toNat (0,0,false,0,0,0,0,0)).2.1+1),(b1.1.getD t.toNat (0,0,false,0,0,0,0,0)).2.2)).getD t.toNat (0,0,false,0,0,0,0,0)) (4+((p.getD (b1.2.1.getD (b1.1.getD t.toNat (0,0,false,0,0,0,0,0)).2.2.2.1.toNat (0,0,0,0,0,0)).2.2.1.toNat []).getD (b1.1.getD t.toNat (0,0,false,0,0,0,0,0)).2.1.toNat (0,0,0,0)).2.1.toNat*1) p_5)))] gt ?_
           as_aux_lemma =>
            have hj:=hk_linealref08_Play_Step_2_k2 _ h
            exact AW.weaken (zL [] [] []) hj
          rw [if_neg (Bool.eq_false_iff.1 hb33)] at h
          rcases Bool.eq_false_or_eq_true (decide (((p.getD (b1.2.1.getD (b1.1.getD t.toNat (0,0,false,0,0,0,0,0)).2.2.2.1.toNat (0,0,0,0,0,0)).2.2.1.toNat []).getD (b1.1.getD t.toNat (0,0,false,0,0,0,0,0)).2.1.toNat (0,0,0,0)).2.2.1=1)) with hb41|hb41
          ·rw [if_pos hb41] at h
           have hz42:((p.getD (b1.2.1.getD (b1.1.getD t.toNat (0,0,false,0,0,0,0,0)).2.2.2.1.toNat (0,0,0,0,0,0)).2.2.1.toNat []).getD (b1.1.getD t.toNat (0,0,false,0,0,0,0,0)).2.1.toNat (0,0,0,0)).2.2.1=1:=by simpa using hb41
           obtain ⟨c44,h⟩:=b5.1 h
           obtain ⟨c45,h⟩:=b5.1 h
           obtain ⟨c46,h⟩:=b5.1 h
           obtain ⟨c47,h⟩:=b5.1 h
           have hx48:(4+((p.getD (b1.2.1.getD (b1.1.getD t.toNat (0,0,false,0,0,0,0,0)).2.2.2.1.toNat (0,0,0,0,0,0)).2.2.1.toNat []).getD (b1.1.getD t.toNat (0,0,false,0,0,0,0,0)).2.1.toNat (0,0,0,0)).2.1.toNat*1)<8:=j9 c47
           refine b9 5 (fun K' hK43=>?_)
           try dsimp only [y1,y2,y3,y4]
           simp only [go_sem,hb28,hb33,hb41,hz42,c47]
           repeat with_reducible refine zN ?_
           refine hK43 _ ?_
           refine g6 ?_
           refine i6 ?_
           refine f7 ?_
           refine zV [(0,.bp 1000 0),(4,.ap 1001 8 t.toNat 0),(5,.ii p_4),(6,.ii (b1.2.1.getD (b1.1.getD t.toNat (0,0,false,0,0,0,0,0)).2.2.2.1.toNat (0,0,0,0,0,0)).2.2.1),(7,.ii (b1.1.getD t.toNat (0,0,false,0,0,0,0,0)).2.1)] [(72,.arr 68 Y0 b1.2.1),(81,.arr 3 .i b1.2.2),(1000,.box 97 [.sl (.sl Y4) p,.sl (.sl .i) p_2,.sl .i p_3,.own 1001,.ii (p_4+1),.ii p_5,.ii p_6,.ii p_7,.own 72,.own 81]),(1001,.arr 161 Y2 ((b1.1.set t.toNat ((b1.1.getD t.toNat (0,0,false,0,0,0,0,0)).1,((b1.1.getD t.toNat (0,0,false,0,0,0,0,0)).2.1+1),(b1.1.getD t.toNat (0,0,false,0,0,0,0,0)).2.2)).set t.toNat (f9 Y2 ((b1.1.set t.toNat ((b1.1.getD t.toNat (0,0,false,0,0,0,0,0)).1,((b1.1.getD t.toNat (0,0,false,0,0,0,0,0)).2.1+1),(b1.1.getD t.toNat (0,0,false,0,0,0,0,0)).2.2)).getD t.toNat (0,0,false,0,0,0,0,0)) (4+((p.getD (b1.2.1.getD (b1.1.getD t.toNat (0,0,false,0,0,0,0,0)).2.2.2.1.toNat (0,0,0,0,0,0)).2.2.1.toNat []).getD (b1.1.getD t.toNat (0,0,false,0,0,0,0,0)).2.1.toNat (0,0,0,0)).2.1.toNat*1) p_6)))] gt ?_
           as_aux_lemma =>
            have hj:=hk_linealref08_Play_Step_2_k2 _ h
            exact AW.weaken (zL [] [] []) hj
          rw [if_neg (Bool.eq_false_iff.1 hb41)] at h
          have hz42:((p.getD (b1.2.1.getD (b1.1.getD t.toNat (0,0,false,0,0,0,0,0)).2.2.2.1.toNat (0,0,0,0,0,0)).2.2.1.toNat []).getD (b1.1.getD t.toNat (0,0,false,0,0,0,0,0)).2.1.toNat (0,0,0,0)).2.2.1=2:=by have:=of_decide_eq_false hb33; have:=of_decide_eq_false hb41; omega
          obtain ⟨c50,h⟩:=b5.1 h
          obtain ⟨c51,h⟩:=b5.1 h
          obtain ⟨c52,h⟩:=b5.1 h
          obtain ⟨c53,h⟩:=b5.1 h
          have hx54:(4+((p.getD (b1.2.1.getD (b1.1.getD t.toNat (0,0,false,0,0,0,0,0)).2.2.2.1.toNat (0,0,0,0,0,0)).2.2.1.toNat []).getD (b1.1.getD t.toNat (0,0,false,0,0,0,0,0)).2.1.toNat (0,0,0,0)).2.1.toNat*1)<8:=j9 c53
          refine b9 5 (fun K' hK49=>?_)
          try dsimp only [y1,y2,y3,y4]
          simp only [go_sem,hb28,hb33,hb41,hz42,c53]
          repeat with_reducible refine zN ?_
          refine hK49 _ ?_
          refine g6 ?_
          refine i6 ?_
          refine f7 ?_
          refine zV [(0,.bp 1000 0),(4,.ap 1001 8 t.toNat 0),(5,.ii p_4),(6,.ii (b1.2.1.getD (b1.1.getD t.toNat (0,0,false,0,0,0,0,0)).2.2.2.1.toNat (0,0,0,0,0,0)).2.2.1),(7,.ii (b1.1.getD t.toNat (0,0,false,0,0,0,0,0)).2.1)] [(72,.arr 68 Y0 b1.2.1),(81,.arr 3 .i b1.2.2),(1000,.box 97 [.sl (.sl Y4) p,.sl (.sl .i) p_2,.sl .i p_3,.own 1001,.ii (p_4+1),.ii p_5,.ii p_6,.ii p_7,.own 72,.own 81]),(1001,.arr 161 Y2 ((b1.1.set t.toNat ((b1.1.getD t.toNat (0,0,false,0,0,0,0,0)).1,((b1.1.getD t.toNat (0,0,false,0,0,0,0,0)).2.1+1),(b1.1.getD t.toNat (0,0,false,0,0,0,0,0)).2.2)).set t.toNat (f9 Y2 ((b1.1.set t.toNat ((b1.1.getD t.toNat (0,0,false,0,0,0,0,0)).1,((b1.1.getD t.toNat (0,0,false,0,0,0,0,0)).2.1+1),(b1.1.getD t.toNat (0,0,false,0,0,0,0,0)).2.2)).getD t.toNat (0,0,false,0,0,0,0,0)) (4+((p.getD (b1.2.1.getD (b1.1.getD t.toNat (0,0,false,0,0,0,0,0)).2.2.2.1.toNat (0,0,0,0,0,0)).2.2.1.toNat []).getD (b1.1.getD t.toNat (0,0,false,0,0,0,0,0)).2.1.toNat (0,0,0,0)).2.1.toNat*1) p_7)))] gt ?_
          as_aux_lemma =>
           have hj:=hk_linealref08_Play_Step_2_k2 _ h
           exact AW.weaken (zL [] [] []) hj
      refine zo ?_
      refine zB [(0,.bp 1000 0),(4,.ap 1001 8 t.toNat 0),(5,.ii p_4),(6,.ii (b1.2.1.getD (b1.1.getD t.toNat (0,0,false,0,0,0,0,0)).2.2.2.1.toNat (0,0,0,0,0,0)).2.2.1),(7,.ii (b1.1.getD t.toNat (0,0,false,0,0,0,0,0)).2.1),(8,.bp 8 0),(9,.ap 1001 8 t.toNat 4),(118,.ii ((p.getD (b1.2.1.getD (b1.1.getD t.toNat (0,0,false,0,0,0,0,0)).2.2.2.1.toNat (0,0,0,0,0,0)).2.2.1.toNat []).getD (b1.1.getD t.toNat (0,0,false,0,0,0,0,0)).2.1.toNat (0,0,0,0)).1),(133,.bool (decide (((p.getD (b1.2.1.getD (b1.1.getD t.toNat (0,0,false,0,0,0,0,0)).2.2.2.1.toNat (0,0,0,0,0,0)).2.2.1.toNat []).getD (b1.1.getD t.toNat (0,0,false,0,0,0,0,0)).2.1.toNat (0,0,0,0)).1=2)))] [(8,.box 74 [.ii ((p.getD (b1.2.1.getD (b1.1.getD t.toNat (0,0,false,0,0,0,0,0)).2.2.2.1.toNat (0,0,0,0,0,0)).2.2.1.toNat []).getD (b1.1.getD t.toNat (0,0,false,0,0,0,0,0)).2.1.toNat (0,0,0,0)).1,.ii ((p.getD (b1.2.1.getD (b1.1.getD t.toNat (0,0,false,0,0,0,0,0)).2.2.2.1.toNat (0,0,0,0,0,0)).2.2.1.toNat []).getD (b1.1.getD t.toNat (0,0,false,0,0,0,0,0)).2.1.toNat (0,0,0,0)).2.1,.ii ((p.getD (b1.2.1.getD (b1.1.getD t.toNat (0,0,false,0,0,0,0,0)).2.2.2.1.toNat (0,0,0,0,0,0)).2.2.1.toNat []).getD (b1.1.getD t.toNat (0,0,false,0,0,0,0,0)).2.1.toNat (0,0,0,0)).2.2.1,.ii ((p.getD (b1.2.1.getD (b1.1.getD t.toNat (0,0,false,0,0,0,0,0)).2.2.2.1.toNat (0,0,0,0,0,0)).2.2.1.toNat []).getD (b1.1.getD t.toNat (0,0,false,0,0,0,0,0)).2.1.toNat (0,0,0,0)).2.2.2]),(72,.arr 68 Y0 b1.2.1),(81,.arr 3 .i b1.2.2),(1000,.box 97 [.sl (.sl Y4) p,.sl (.sl .i) p_2,.sl .i p_3,.own 1001,.ii (p_4+1),.ii p_5,.ii p_6,.ii p_7,.own 72,.own 81]),(1001,.arr 161 Y2 (b1.1.set t.toNat ((b1.1.getD t.toNat (0,0,false,0,0,0,0,0)).1,((b1.1.getD t.toNat (0,0,false,0,0,0,0,0)).2.1+1),(b1.1.getD t.toNat (0,0,false,0,0,0,0,0)).2.2)))] ?_
      refine zQ h (fun hb55 h=>?_) (fun hb55 h=>?_)
      ·refine AW.draw m8 l6 [(12,[1000])] [] (by decide) (n6 (by kernel_rfl)) ?_
       as_aux_lemma =>
        refine b9 6 (fun K' hK56=>?_)
        try dsimp only [y1,y2,y3,y4]
        simp only [go_sem,hb28,hb55]
        repeat with_reducible refine zN ?_
        refine hK56 _ ?_
        as_aux_lemma =>
         obtain ⟨c58,h⟩:=b5.1 h
         obtain ⟨c59,h⟩:=b5.1 h
         obtain ⟨c60,h⟩:=b5.1 h
         obtain ⟨c61,h⟩:=b5.1 h
         have hx62:(4+((p.getD (b1.2.1.getD (b1.1.getD t.toNat (0,0,false,0,0,0,0,0)).2.2.2.1.toNat (0,0,0,0,0,0)).2.2.1.toNat []).getD (b1.1.getD t.toNat (0,0,false,0,0,0,0,0)).2.1.toNat (0,0,0,0)).2.2.1.toNat*1)<8:=j9 c61
         obtain ⟨c63,h⟩:=b5.1 h
         obtain ⟨c64,h⟩:=b5.1 h
         refine b9 5 (fun K' hK57=>?_)
         try dsimp only [y1,y2,y3,y4]
         simp only [go_sem,hb28,hb55,c61]
         repeat with_reducible refine zN ?_
         refine hK57 _ ?_
         as_aux_lemma =>
          rcases Bool.eq_false_or_eq_true (decide (((p.getD (b1.2.1.getD (b1.1.getD t.toNat (0,0,false,0,0,0,0,0)).2.2.2.1.toNat (0,0,0,0,0,0)).2.2.1.toNat []).getD (b1.1.getD t.toNat (0,0,false,0,0,0,0,0)).2.1.toNat (0,0,0,0)).2.1=0)) with hb65|hb65
          ·rw [if_pos hb65] at h
           have hz66:((p.getD (b1.2.1.getD (b1.1.getD t.toNat (0,0,false,0,0,0,0,0)).2.2.2.1.toNat (0,0,0,0,0,0)).2.2.1.toNat []).getD (b1.1.getD t.toNat (0,0,false,0,0,0,0,0)).2.1.toNat (0,0,0,0)).2.1=0:=by simpa using hb65
           refine b9 2 (fun K' hK67=>?_)
           try dsimp only [y1,y2,y3,y4]
           simp only [go_sem,hb28,hb55,c61,hb65,hz66]
           repeat with_reducible refine zN ?_
           refine hK67 _ ?_
           refine g6 ?_
           refine i6 ?_
           refine f7 ?_
           refine zV [(0,.bp 1000 0),(4,.ap 1001 8 t.toNat 0),(5,.ii p_4),(6,.ii (b1.2.1.getD (b1.1.getD t.toNat (0,0,false,0,0,0,0,0)).2.2.2.1.toNat (0,0,0,0,0,0)).2.2.1),(7,.ii (b1.1.getD t.toNat (0,0,false,0,0,0,0,0)).2.1)] [(72,.arr 68 Y0 b1.2.1),(81,.arr 3 .i b1.2.2),(1000,.box 97 [.sl (.sl Y4) p,.sl (.sl .i) p_2,.sl .i p_3,.own 1001,.ii (p_4+1),.ii (b7 Y2 ((b1.1.set t.toNat ((b1.1.getD t.toNat (0,0,false,0,0,0,0,0)).1,((b1.1.getD t.toNat (0,0,false,0,0,0,0,0)).2.1+1),(b1.1.getD t.toNat (0,0,false,0,0,0,0,0)).2.2)).getD t.toNat (0,0,false,0,0,0,0,0)) (4+((p.getD (b1.2.1.getD (b1.1.getD t.toNat (0,0,false,0,0,0,0,0)).2.2.2.1.toNat (0,0,0,0,0,0)).2.2.1.toNat []).getD (b1.1.getD t.toNat (0,0,false,0,0,0,0,0)).2.1.toNat (0,0,0,0)).2.2.1.toNat*1)),.ii p_6,.ii p_7,.own 72,.own 81]),(1001,.arr 161 Y2 (b1.1.set t.toNat ((b1.1.getD t.toNat (0,0,false,0,0,0,0,0)).1,((b1.1.getD t.toNat (0,0,false,0,0,0,0,0)).2.1+1),(b1.1.getD t.toNat (0,0,false,0,0,0,0,0)).2.2)))] gt ?_
           as_aux_lemma =>
            have hj:=hk_linealref08_Play_Step_2_k2 _ h
            exact AW.weaken (zL [] [] []) hj
          rw [if_neg (Bool.eq_false_iff.1 hb65)] at h
          rcases Bool.eq_false_or_eq_true (decide (((p.getD (b1.2.1.getD (b1.1.getD t.toNat (0,0,false,0,0,0,0,0)).2.2.2.1.toNat (0,0,0,0,0,0)).2.2.1.toNat []).getD (b1.1.getD t.toNat (0,0,false,0,0,0,0,0)).2.1.toNat (0,0,0,0)).2.1=1)) with hb68|hb68
          ·rw [if_pos hb68] at h
           have hz69:((p.getD (b1.2.1.getD (b1.1.getD t.toNat (0,0,false,0,0,0,0,0)).2.2.2.1.toNat (0,0,0,0,0,0)).2.2.1.toNat []).getD (b1.1.getD t.toNat (0,0,false,0,0,0,0,0)).2.1.toNat (0,0,0,0)).2.1=1:=by simpa using hb68
           refine b9 2 (fun K' hK70=>?_)
           try dsimp only [y1,y2,y3,y4]
           simp only [go_sem,hb28,hb55,c61,hb65,hb68,hz69]
           repeat with_reducible refine zN ?_
           refine hK70 _ ?_
           refine g6 ?_
           refine i6 ?_
           refine f7 ?_
           refine zV [(0,.bp 1000 0),(4,.ap 1001 8 t.toNat 0),(5,.ii p_4),(6,.ii (b1.2.1.getD (b1.1.getD t.toNat (0,0,false,0,0,0,0,0)).2.2.2.1.toNat (0,0,0,0,0,0)).2.2.1),(7,.ii (b1.1.getD t.toNat (0,0,false,0,0,0,0,0)).2.1)] [(72,.arr 68 Y0 b1.2.1),(81,.arr 3 .i b1.2.2),(1000,.box 97 [.sl (.sl Y4) p,.sl (.sl .i) p_2,.sl .i p_3,.own 1001,.ii (p_4+1),.ii p_5,.ii (b7 Y2 ((b1.1.set t.toNat ((b1.1.getD t.toNat (0,0,false,0,0,0,0,0)).1,((b1.1.getD t.toNat (0,0,false,0,0,0,0,0)).2.1+1),(b1.1.getD t.toNat (0,0,false,0,0,0,0,0)).2.2)).getD t.toNat (0,0,false,0,0,0,0,0)) (4+((p.getD (b1.2.1.getD (b1.1.getD t.toNat (0,0,false,0,0,0,0,0)).2.2.2.1.toNat (0,0,0,0,0,0)).2.2.1.toNat []).getD (b1.1.getD t.toNat (0,0,false,0,0,0,0,0)).2.1.toNat (0,0,0,0)).2.2.1.toNat*1)),.ii p_7,.own 72,.own 81]),(1001,.arr 161 Y2 (b1.1.set t.toNat ((b1.1.getD t.toNat (0,0,false,0,0,0,0,0)).1,((b1.1.getD t.toNat (0,0,false,0,0,0,0,0)).2.1+1),(b1.1.getD t.toNat (0,0,false,0,0,0,0,0)).2.2)))] gt ?_
           as_aux_lemma =>
            have hj:=hk_linealref08_Play_Step_2_k2 _ h
            exact AW.weaken (zL [] [] []) hj
          rw [if_neg (Bool.eq_false_iff.1 hb68)] at h
          have hz69:((p.getD (b1.2.1.getD (b1.1.getD t.toNat (0,0,false,0,0,0,0,0)).2.2.2.1.toNat (0,0,0,0,0,0)).2.2.1.toNat []).getD (b1.1.getD t.toNat (0,0,false,0,0,0,0,0)).2.1.toNat (0,0,0,0)).2.1=2:=by have:=of_decide_eq_false hb65; have:=of_decide_eq_false hb68; omega
          refine b9 2 (fun K' hK71=>?_)
          try dsimp only [y1,y2,y3,y4]
          simp only [go_sem,hb28,hb55,c61,hb65,hb68,hz69]
          repeat with_reducible refine zN ?_
          refine hK71 _ ?_
          refine g6 ?_
          refine i6 ?_
          refine f7 ?_
          refine zV [(0,.bp 1000 0),(4,.ap 1001 8 t.toNat 0),(5,.ii p_4),(6,.ii (b1.2.1.getD (b1.1.getD t.toNat (0,0,false,0,0,0,0,0)).2.2.2.1.toNat (0,0,0,0,0,0)).2.2.1),(7,.ii (b1.1.getD t.toNat (0,0,false,0,0,0,0,0)).2.1)] [(72,.arr 68 Y0 b1.2.1),(81,.arr 3 .i b1.2.2),(1000,.box 97 [.sl (.sl Y4) p,.sl (.sl .i) p_2,.sl .i p_3,.own 1001,.ii (p_4+1),.ii p_5,.ii p_6,.ii (b7 Y2 ((b1.1.set t.toNat ((b1.1.getD t.toNat (0,0,false,0,0,0,0,0)).1,((b1.1.getD t.toNat (0,0,false,0,0,0,0,0)).2.1+1),(b1.1.getD t.toNat (0,0,false,0,0,0,0,0)).2.2)).getD t.toNat (0,0,false,0,0,0,0,0)) (4+((p.getD (b1.2.1.getD (b1.1.getD t.toNat (0,0,false,0,0,0,0,0)).2.2.2.1.toNat (0,0,0,0,0,0)).2.2.1.toNat []).getD (b1.1.getD t.toNat (0,0,false,0,0,0,0,0)).2.1.toNat (0,0,0,0)).2.2.1.toNat*1)),.own 72,.own 81]),(1001,.arr 161 Y2 (b1.1.set t.toNat ((b1.1.getD t.toNat (0,0,false,0,0,0,0,0)).1,((b1.1.getD t.toNat (0,0,false,0,0,0,0,0)).2.1+1),(b1.1.getD t.toNat (0,0,false,0,0,0,0,0)).2.2)))] gt ?_
          as_aux_lemma =>
           have hj:=hk_linealref08_Play_Step_2_k2 _ h
           exact AW.weaken (zL [] [] []) hj
      refine zo ?_
      refine zB [(0,.bp 1000 0),(4,.ap 1001 8 t.toNat 0),(5,.ii p_4),(6,.ii (b1.2.1.getD (b1.1.getD t.toNat (0,0,false,0,0,0,0,0)).2.2.2.1.toNat (0,0,0,0,0,0)).2.2.1),(7,.ii (b1.1.getD t.toNat (0,0,false,0,0,0,0,0)).2.1),(8,.bp 8 0),(9,.ap 1001 8 t.toNat 4),(118,.ii ((p.getD (b1.2.1.getD (b1.1.getD t.toNat (0,0,false,0,0,0,0,0)).2.2.2.1.toNat (0,0,0,0,0,0)).2.2.1.toNat []).getD (b1.1.getD t.toNat (0,0,false,0,0,0,0,0)).2.1.toNat (0,0,0,0)).1),(147,.bool (decide (((p.getD (b1.2.1.getD (b1.1.getD t.toNat (0,0,false,0,0,0,0,0)).2.2.2.1.toNat (0,0,0,0,0,0)).2.2.1.toNat []).getD (b1.1.getD t.toNat (0,0,false,0,0,0,0,0)).2.1.toNat (0,0,0,0)).1=3)))] [(8,.box 74 [.ii ((p.getD (b1.2.1.getD (b1.1.getD t.toNat (0,0,false,0,0,0,0,0)).2.2.2.1.toNat (0,0,0,0,0,0)).2.2.1.toNat []).getD (b1.1.getD t.toNat (0,0,false,0,0,0,0,0)).2.1.toNat (0,0,0,0)).1,.ii ((p.getD (b1.2.1.getD (b1.1.getD t.toNat (0,0,false,0,0,0,0,0)).2.2.2.1.toNat (0,0,0,0,0,0)).2.2.1.toNat []).getD (b1.1.getD t.toNat (0,0,false,0,0,0,0,0)).2.1.toNat (0,0,0,0)).2.1,.ii ((p.getD (b1.2.1.getD (b1.1.getD t.toNat (0,0,false,0,0,0,0,0)).2.2.2.1.toNat (0,0,0,0,0,0)).2.2.1.toNat []).getD (b1.1.getD t.toNat (0,0,false,0,0,0,0,0)).2.1.toNat (0,0,0,0)).2.2.1,.ii ((p.getD (b1.2.1.getD (b1.1.getD t.toNat (0,0,false,0,0,0,0,0)).2.2.2.1.toNat (0,0,0,0,0,0)).2.2.1.toNat []).getD (b1.1.getD t.toNat (0,0,false,0,0,0,0,0)).2.1.toNat (0,0,0,0)).2.2.2]),(72,.arr 68 Y0 b1.2.1),(81,.arr 3 .i b1.2.2),(1000,.box 97 [.sl (.sl Y4) p,.sl (.sl .i) p_2,.sl .i p_3,.own 1001,.ii (p_4+1),.ii p_5,.ii p_6,.ii p_7,.own 72,.own 81]),(1001,.arr 161 Y2 (b1.1.set t.toNat ((b1.1.getD t.toNat (0,0,false,0,0,0,0,0)).1,((b1.1.getD t.toNat (0,0,false,0,0,0,0,0)).2.1+1),(b1.1.getD t.toNat (0,0,false,0,0,0,0,0)).2.2)))] ?_
      refine zQ h (fun hb72 h=>?_) (fun hb72 h=>?_)
      ·refine zo ?_
       refine zB [(0,.bp 1000 0),(4,.ap 1001 8 t.toNat 0),(5,.ii p_4),(6,.ii (b1.2.1.getD (b1.1.getD t.toNat (0,0,false,0,0,0,0,0)).2.2.2.1.toNat (0,0,0,0,0,0)).2.2.1),(7,.ii (b1.1.getD t.toNat (0,0,false,0,0,0,0,0)).2.1),(8,.bp 8 0),(9,.ap 1001 8 t.toNat 4),(10,.ii 0)] [(8,.box 74 [.ii ((p.getD (b1.2.1.getD (b1.1.getD t.toNat (0,0,false,0,0,0,0,0)).2.2.2.1.toNat (0,0,0,0,0,0)).2.2.1.toNat []).getD (b1.1.getD t.toNat (0,0,false,0,0,0,0,0)).2.1.toNat (0,0,0,0)).1,.ii ((p.getD (b1.2.1.getD (b1.1.getD t.toNat (0,0,false,0,0,0,0,0)).2.2.2.1.toNat (0,0,0,0,0,0)).2.2.1.toNat []).getD (b1.1.getD t.toNat (0,0,false,0,0,0,0,0)).2.1.toNat (0,0,0,0)).2.1,.ii ((p.getD (b1.2.1.getD (b1.1.getD t.toNat (0,0,false,0,0,0,0,0)).2.2.2.1.toNat (0,0,0,0,0,0)).2.2.1.toNat []).getD (b1.1.getD t.toNat (0,0,false,0,0,0,0,0)).2.1.toNat (0,0,0,0)).2.2.1,.ii ((p.getD (b1.2.1.getD (b1.1.getD t.toNat (0,0,false,0,0,0,0,0)).2.2.2.1.toNat (0,0,0,0,0,0)).2.2.1.toNat []).getD (b1.1.getD t.toNat (0,0,false,0,0,0,0,0)).2.1.toNat (0,0,0,0)).2.2.2]),(72,.arr 68 Y0 b1.2.1),(81,.arr 3 .i b1.2.2),(1000,.box 97 [.sl (.sl Y4) p,.sl (.sl .i) p_2,.sl .i p_3,.own 1001,.ii (p_4+1),.ii p_5,.ii p_6,.ii p_7,.own 72,.own 81]),(1001,.arr 161 Y2 (b1.1.set t.toNat ((b1.1.getD t.toNat (0,0,false,0,0,0,0,0)).1,((b1.1.getD t.toNat (0,0,false,0,0,0,0,0)).2.1+1),(b1.1.getD t.toNat (0,0,false,0,0,0,0,0)).2.2)))] ?_
       refine AW.seq ?_
       refine AW.seq ?_
       refine AW.draw m8 l6 [] [] (by decide) (n6 (by kernel_rfl)) ?_
       as_aux_lemma =>
        obtain ⟨c74,h⟩:=b5.1 h
        obtain ⟨c75,h⟩:=b5.1 h
        refine b9 5 (fun K' hK73=>?_)
        try dsimp only [y1,y2,y3,y4]
        simp only [go_sem,hb28,hb55,hb72]
        repeat with_reducible refine zN ?_
        refine hK73 _ ?_
        as_aux_lemma =>
         rcases Bool.eq_false_or_eq_true (decide (((p.getD (b1.2.1.getD (b1.1.getD t.toNat (0,0,false,0,0,0,0,0)).2.2.2.1.toNat (0,0,0,0,0,0)).2.2.1.toNat []).getD (b1.1.getD t.toNat (0,0,false,0,0,0,0,0)).2.1.toNat (0,0,0,0)).2.1=0)) with hb76|hb76
         ·rw [if_pos hb76] at h
          have hz77:((p.getD (b1.2.1.getD (b1.1.getD t.toNat (0,0,false,0,0,0,0,0)).2.2.2.1.toNat (0,0,0,0,0,0)).2.2.1.toNat []).getD (b1.1.getD t.toNat (0,0,false,0,0,0,0,0)).2.1.toNat (0,0,0,0)).2.1=0:=by simpa using hb76
          refine b9 6 (fun K' hK78=>?_)
          try dsimp only [y1,y2,y3,y4]
          simp only [go_sem,hb28,hb55,hb72,hb76,hz77]
          repeat with_reducible refine zN ?_
          refine hK78 _ ?_
          as_aux_lemma =>
           obtain ⟨c80,h⟩:=b5.1 h
           obtain ⟨c81,h⟩:=b5.1 h
           obtain ⟨c82,h⟩:=b5.1 h
           obtain ⟨c83,h⟩:=b5.1 h
           have hx84:(4+((p.getD (b1.2.1.getD (b1.1.getD t.toNat (0,0,false,0,0,0,0,0)).2.2.2.1.toNat (0,0,0,0,0,0)).2.2.1.toNat []).getD (b1.1.getD t.toNat (0,0,false,0,0,0,0,0)).2.1.toNat (0,0,0,0)).2.2.1.toNat*1)<8:=j9 c83
           refine b9 3 (fun K' hK79=>?_)
           try dsimp only [y1,y2,y3,y4]
           simp only [go_sem,hb28,hb55,hb72,hb76,hz77,c83]
           repeat with_reducible refine zN ?_
           refine hK79 _ ?_
           refine g6 ?_
           refine f7 ?_
           refine zV [(0,.bp 1000 0),(4,.ap 1001 8 t.toNat 0),(5,.ii p_4),(6,.ii (b1.2.1.getD (b1.1.getD t.toNat (0,0,false,0,0,0,0,0)).2.2.2.1.toNat (0,0,0,0,0,0)).2.2.1),(7,.ii (b1.1.getD t.toNat (0,0,false,0,0,0,0,0)).2.1),(8,.bp 8 0),(9,.ap 1001 8 t.toNat 4),(10,.ii 0),(162,.bool (decide (p_5=(b7 Y2 ((b1.1.set t.toNat ((b1.1.getD t.toNat (0,0,false,0,0,0,0,0)).1,((b1.1.getD t.toNat (0,0,false,0,0,0,0,0)).2.1+1),(b1.1.getD t.toNat (0,0,false,0,0,0,0,0)).2.2)).getD t.toNat (0,0,false,0,0,0,0,0)) (4+((p.getD (b1.2.1.getD (b1.1.getD t.toNat (0,0,false,0,0,0,0,0)).2.2.2.1.toNat (0,0,0,0,0,0)).2.2.1.toNat []).getD (b1.1.getD t.toNat (0,0,false,0,0,0,0,0)).2.1.toNat (0,0,0,0)).2.2.1.toNat*1)))))] [(8,.box 74 [.ii ((p.getD (b1.2.1.getD (b1.1.getD t.toNat (0,0,false,0,0,0,0,0)).2.2.2.1.toNat (0,0,0,0,0,0)).2.2.1.toNat []).getD (b1.1.getD t.toNat (0,0,false,0,0,0,0,0)).2.1.toNat (0,0,0,0)).1,.ii 0,.ii ((p.getD (b1.2.1.getD (b1.1.getD t.toNat (0,0,false,0,0,0,0,0)).2.2.2.1.toNat (0,0,0,0,0,0)).2.2.1.toNat []).getD (b1.1.getD t.toNat (0,0,false,0,0,0,0,0)).2.1.toNat (0,0,0,0)).2.2.1,.ii ((p.getD (b1.2.1.getD (b1.1.getD t.toNat (0,0,false,0,0,0,0,0)).2.2.2.1.toNat (0,0,0,0,0,0)).2.2.1.toNat []).getD (b1.1.getD t.toNat (0,0,false,0,0,0,0,0)).2.1.toNat (0,0,0,0)).2.2.2]),(72,.arr 68 Y0 b1.2.1),(81,.arr 3 .i b1.2.2),(1000,.box 97 [.sl (.sl Y4) p,.sl (.sl .i) p_2,.sl .i p_3,.own 1001,.ii (p_4+1),.ii p_5,.ii p_6,.ii p_7,.own 72,.own 81]),(1001,.arr 161 Y2 (b1.1.set t.toNat ((b1.1.getD t.toNat (0,0,false,0,0,0,0,0)).1,((b1.1.getD t.toNat (0,0,false,0,0,0,0,0)).2.1+1),(b1.1.getD t.toNat (0,0,false,0,0,0,0,0)).2.2)))] gt ?_
           as_aux_lemma =>
            refine zQ h (fun hb85 h=>?_) (fun hb85 h=>?_)
            ·refine AW.seq ?_
             refine AW.draw m8 l6 [(12,[1000])] [] (by decide) (n6 (by kernel_rfl)) ?_
             as_aux_lemma =>
              refine b9 6 (fun K' hK86=>?_)
              try dsimp only [y1,y2,y3,y4]
              simp only [go_sem,hb28,hb55,hb72,hb76,hz77,c83,hb85]
              repeat with_reducible refine zN ?_
              refine hK86 _ ?_
              as_aux_lemma =>
               obtain ⟨c88,h⟩:=b5.1 h
               obtain ⟨c89,h⟩:=b5.1 h
               obtain ⟨c90,h⟩:=b5.1 h
               obtain ⟨c91,h⟩:=b5.1 h
               have hx92:(4+((p.getD (b1.2.1.getD (b1.1.getD t.toNat (0,0,false,0,0,0,0,0)).2.2.2.1.toNat (0,0,0,0,0,0)).2.2.1.toNat []).getD (b1.1.getD t.toNat (0,0,false,0,0,0,0,0)).2.1.toNat (0,0,0,0)).2.2.2.toNat*1)<8:=j9 c91
               refine b9 6 (fun K' hK87=>?_)
               try dsimp only [y1,y2,y3,y4]
               simp only [go_sem,hb28,hb55,hb72,hb76,hz77,c83,hb85,c91]
               repeat with_reducible refine zN ?_
               refine hK87 _ ?_
               as_aux_lemma =>
                refine b9 1 (fun K' hK93=>?_)
                try dsimp only [y1,y2,y3,y4]
                simp only [go_sem,hb28,hb55,hb72,hb76,hz77,c83,hb85,c91]
                repeat with_reducible refine zN ?_
                refine hK93 _ ?_
                refine g6 ?_
                refine f7 ?_
                refine zV [(0,.bp 1000 0),(4,.ap 1001 8 t.toNat 0),(5,.ii p_4),(6,.ii (b1.2.1.getD (b1.1.getD t.toNat (0,0,false,0,0,0,0,0)).2.2.2.1.toNat (0,0,0,0,0,0)).2.2.1),(7,.ii (b1.1.getD t.toNat (0,0,false,0,0,0,0,0)).2.1),(9,.ap 1001 8 t.toNat 4)] [(72,.arr 68 Y0 b1.2.1),(81,.arr 3 .i b1.2.2),(1000,.box 97 [.sl (.sl Y4) p,.sl (.sl .i) p_2,.sl .i p_3,.own 1001,.ii (p_4+1),.ii (b7 Y2 ((b1.1.set t.toNat ((b1.1.getD t.toNat (0,0,false,0,0,0,0,0)).1,((b1.1.getD t.toNat (0,0,false,0,0,0,0,0)).2.1+1),(b1.1.getD t.toNat (0,0,false,0,0,0,0,0)).2.2)).getD t.toNat (0,0,false,0,0,0,0,0)) (4+((p.getD (b1.2.1.getD (b1.1.getD t.toNat (0,0,false,0,0,0,0,0)).2.2.2.1.toNat (0,0,0,0,0,0)).2.2.1.toNat []).getD (b1.1.getD t.toNat (0,0,false,0,0,0,0,0)).2.1.toNat (0,0,0,0)).2.2.2.toNat*1)),.ii p_6,.ii p_7,.own 72,.own 81]),(1001,.arr 161 Y2 (b1.1.set t.toNat ((b1.1.getD t.toNat (0,0,false,0,0,0,0,0)).1,((b1.1.getD t.toNat (0,0,false,0,0,0,0,0)).2.1+1),(b1.1.getD t.toNat (0,0,false,0,0,0,0,0)).2.2)))] gt ?_
                as_aux_lemma =>
                 refine AW.ops ?_
                 refine zB [(0,.bp 1000 0),(4,.ap 1001 8 t.toNat 0),(5,.ii p_4),(6,.ii (b1.2.1.getD (b1.1.getD t.toNat (0,0,false,0,0,0,0,0)).2.2.2.1.toNat (0,0,0,0,0,0)).2.2.1),(7,.ii (b1.1.getD t.toNat (0,0,false,0,0,0,0,0)).2.1),(9,.ap 1001 8 t.toNat 4),(10,.ii 1)] [(72,.arr 68 Y0 b1.2.1),(81,.arr 3 .i b1.2.2),(1000,.box 97 [.sl (.sl Y4) p,.sl (.sl .i) p_2,.sl .i p_3,.own 1001,.ii (p_4+1),.ii (b7 Y2 ((b1.1.set t.toNat ((b1.1.getD t.toNat (0,0,false,0,0,0,0,0)).1,((b1.1.getD t.toNat (0,0,false,0,0,0,0,0)).2.1+1),(b1.1.getD t.toNat (0,0,false,0,0,0,0,0)).2.2)).getD t.toNat (0,0,false,0,0,0,0,0)) (4+((p.getD (b1.2.1.getD (b1.1.getD t.toNat (0,0,false,0,0,0,0,0)).2.2.2.1.toNat (0,0,0,0,0,0)).2.2.1.toNat []).getD (b1.1.getD t.toNat (0,0,false,0,0,0,0,0)).2.1.toNat (0,0,0,0)).2.2.2.toNat*1)),.ii p_6,.ii p_7,.own 72,.own 81]),(1001,.arr 161 Y2 (b1.1.set t.toNat ((b1.1.getD t.toNat (0,0,false,0,0,0,0,0)).1,((b1.1.getD t.toNat (0,0,false,0,0,0,0,0)).2.1+1),(b1.1.getD t.toNat (0,0,false,0,0,0,0,0)).2.2)))] ?_ (h:=by (simp only [go_sem,hb28,hb55,hb72,hb76,hz77,c83,hb85,c91])<;>(with_reducible and_intros)<;>first|assumption|rfl|omega|(unfold maxLen; omega))
                 refine AW.ops ?_
                 obtain ⟨c94,h⟩:=b5.1 h
                 refine zA [(0,.bp 1000 0),(4,.ap 1001 8 t.toNat 0),(5,.ii p_4),(6,.ii (b1.2.1.getD (b1.1.getD t.toNat (0,0,false,0,0,0,0,0)).2.2.2.1.toNat (0,0,0,0,0,0)).2.2.1),(7,.ii (b1.1.getD t.toNat (0,0,false,0,0,0,0,0)).2.1)] [(72,.arr 68 Y0 b1.2.1),(81,.arr 3 .i b1.2.2),(1000,.box 97 [.sl (.sl Y4) p,.sl (.sl .i) p_2,.sl .i p_3,.own 1001,.ii (p_4+1),.ii (b7 Y2 ((b1.1.set t.toNat ((b1.1.getD t.toNat (0,0,false,0,0,0,0,0)).1,((b1.1.getD t.toNat (0,0,false,0,0,0,0,0)).2.1+1),(b1.1.getD t.toNat (0,0,false,0,0,0,0,0)).2.2)).getD t.toNat (0,0,false,0,0,0,0,0)) (4+((p.getD (b1.2.1.getD (b1.1.getD t.toNat (0,0,false,0,0,0,0,0)).2.2.2.1.toNat (0,0,0,0,0,0)).2.2.1.toNat []).getD (b1.1.getD t.toNat (0,0,false,0,0,0,0,0)).2.1.toNat (0,0,0,0)).2.2.2.toNat*1)),.ii p_6,.ii p_7,.own 72,.own 81]),(1001,.arr 161 Y2 ((b1.1.set t.toNat ((b1.1.getD t.toNat (0,0,false,0,0,0,0,0)).1,((b1.1.getD t.toNat (0,0,false,0,0,0,0,0)).2.1+1),(b1.1.getD t.toNat (0,0,false,0,0,0,0,0)).2.2)).set t.toNat (((b1.1.set t.toNat ((b1.1.getD t.toNat (0,0,false,0,0,0,0,0)).1,((b1.1.getD t.toNat (0,0,false,0,0,0,0,0)).2.1+1),(b1.1.getD t.toNat (0,0,false,0,0,0,0,0)).2.2)).getD t.toNat (0,0,false,0,0,0,0,0)).1,((b1.1.set t.toNat ((b1.1.getD t.toNat (0,0,false,0,0,0,0,0)).1,((b1.1.getD t.toNat (0,0,false,0,0,0,0,0)).2.1+1),(b1.1.getD t.toNat (0,0,false,0,0,0,0,0)).2.2)).getD t.toNat (0,0,false,0,0,0,0,0)).2.1,((b1.1.set t.toNat ((b1.1.getD t.toNat (0,0,false,0,0,0,0,0)).1,((b1.1.getD t.toNat (0,0,false,0,0,0,0,0)).2.1+1),(b1.1.getD t.toNat (0,0,false,0,0,0,0,0)).2.2)).getD t.toNat (0,0,false,0,0,0,0,0)).2.2.1,((b1.1.set t.toNat ((b1.1.getD t.toNat (0,0,false,0,0,0,0,0)).1,((b1.1.getD t.toNat (0,0,false,0,0,0,0,0)).2.1+1),(b1.1.getD t.toNat (0,0,false,0,0,0,0,0)).2.2)).getD t.toNat (0,0,false,0,0,0,0,0)).2.2.2.1,((b1.1.set t.toNat ((b1.1.getD t.toNat (0,0,false,0,0,0,0,0)).1,((b1.1.getD t.toNat (0,0,false,0,0,0,0,0)).2.1+1),(b1.1.getD t.toNat (0,0,false,0,0,0,0,0)).2.2)).getD t.toNat (0,0,false,0,0,0,0,0)).2.2.2.2.1,((b1.1.set t.toNat ((b1.1.getD t.toNat (0,0,false,0,0,0,0,0)).1,((b1.1.getD t.toNat (0,0,false,0,0,0,0,0)).2.1+1),(b1.1.getD t.toNat (0,0,false,0,0,0,0,0)).2.2)).getD t.toNat (0,0,false,0,0,0,0,0)).2.2.2.2.2.1,((b1.1.set t.toNat ((b1.1.getD t.toNat (0,0,false,0,0,0,0,0)).1,((b1.1.getD t.toNat (0,0,false,0,0,0,0,0)).2.1+1),(b1.1.getD t.toNat (0,0,false,0,0,0,0,0)).2.2)).getD t.toNat (0,0,false,0,0,0,0,0)).2.2.2.2.2.2.1,1)))] ?_ (h:=by (simp only [go_sem,hb28,hb55,hb72,hb76,hz77,c83,hb85,c91])<;>(with_reducible and_intros)<;>first|assumption|rfl|omega|(unfold maxLen; omega))
                 refine i6 ?_
                 refine f7 ?_
                 have hj:=hk_linealref08_Play_Step_2_k2 _ h
                 exact AW.weaken (zL [] [] []) hj
            refine zk ?_
            refine AW.ops ?_
            obtain ⟨c95,h⟩:=b5.1 h
            refine zA [(0,.bp 1000 0),(4,.ap 1001 8 t.toNat 0),(5,.ii p_4),(6,.ii (b1.2.1.getD (b1.1.getD t.toNat (0,0,false,0,0,0,0,0)).2.2.2.1.toNat (0,0,0,0,0,0)).2.2.1),(7,.ii (b1.1.getD t.toNat (0,0,false,0,0,0,0,0)).2.1)] [(72,.arr 68 Y0 b1.2.1),(81,.arr 3 .i b1.2.2),(1000,.box 97 [.sl (.sl Y4) p,.sl (.sl .i) p_2,.sl .i p_3,.own 1001,.ii (p_4+1),.ii p_5,.ii p_6,.ii p_7,.own 72,.own 81]),(1001,.arr 161 Y2 ((b1.1.set t.toNat ((b1.1.getD t.toNat (0,0,false,0,0,0,0,0)).1,((b1.1.getD t.toNat (0,0,false,0,0,0,0,0)).2.1+1),(b1.1.getD t.toNat (0,0,false,0,0,0,0,0)).2.2)).set t.toNat (((b1.1.set t.toNat ((b1.1.getD t.toNat (0,0,false,0,0,0,0,0)).1,((b1.1.getD t.toNat (0,0,false,0,0,0,0,0)).2.1+1),(b1.1.getD t.toNat (0,0,false,0,0,0,0,0)).2.2)).getD t.toNat (0,0,false,0,0,0,0,0)).1,((b1.1.set t.toNat ((b1.1.getD t.toNat (0,0,false,0,0,0,0,0)).1,((b1.1.getD t.toNat (0,0,false,0,0,0,0,0)).2.1+1),(b1.1.getD t.toNat (0,0,false,0,0,0,0,0)).2.2)).getD t.toNat (0,0,false,0,0,0,0,0)).2.1,((b1.1.set t.toNat ((b1.1.getD t.toNat (0,0,false,0,0,0,0,0)).1,((b1.1.getD t.toNat (0,0,false,0,0,0,0,0)).2.1+1),(b1.1.getD t.toNat (0,0,false,0,0,0,0,0)).2.2)).getD t.toNat (0,0,false,0,0,0,0,0)).2.2.1,((b1.1.set t.toNat ((b1.1.getD t.toNat (0,0,false,0,0,0,0,0)).1,((b1.1.getD t.toNat (0,0,false,0,0,0,0,0)).2.1+1),(b1.1.getD t.toNat (0,0,false,0,0,0,0,0)).2.2)).getD t.toNat (0,0,false,0,0,0,0,0)).2.2.2.1,((b1.1.set t.toNat ((b1.1.getD t.toNat (0,0,false,0,0,0,0,0)).1,((b1.1.getD t.toNat (0,0,false,0,0,0,0,0)).2.1+1),(b1.1.getD t.toNat (0,0,false,0,0,0,0,0)).2.2)).getD t.toNat (0,0,false,0,0,0,0,0)).2.2.2.2.1,((b1.1.set t.toNat ((b1.1.getD t.toNat (0,0,false,0,0,0,0,0)).1,((b1.1.getD t.toNat (0,0,false,0,0,0,0,0)).2.1+1),(b1.1.getD t.toNat (0,0,false,0,0,0,0,0)).2.2)).getD t.toNat (0,0,false,0,0,0,0,0)).2.2.2.2.2.1,((b1.1.set t.toNat ((b1.1.getD t.toNat (0,0,false,0,0,0,0,0)).1,((b1.1.getD t.toNat (0,0,false,0,0,0,0,0)).2.1+1),(b1.1.getD t.toNat (0,0,false,0,0,0,0,0)).2.2)).getD t.toNat (0,0,false,0,0,0,0,0)).2.2.2.2.2.2.1,0)))] ?_ (h:=by (simp only [go_sem,hb28,hb55,hb72,hb76,hz77,c83,hb85])<;>(with_reducible and_intros)<;>first|assumption|rfl|omega|(unfold maxLen; omega))
            refine i6 ?_
            refine f7 ?_
            have hj:=hk_linealref08_Play_Step_2_k2 _ h
            exact AW.weaken (zL [] [] []) hj
         rw [if_neg (Bool.eq_false_iff.1 hb76)] at h
         rcases Bool.eq_false_or_eq_true (decide (((p.getD (b1.2.1.getD (b1.1.getD t.toNat (0,0,false,0,0,0,0,0)).2.2.2.1.toNat (0,0,0,0,0,0)).2.2.1.toNat []).getD (b1.1.getD t.toNat (0,0,false,0,0,0,0,0)).2.1.toNat (0,0,0,0)).2.1=1)) with hb96|hb96
         ·rw [if_pos hb96] at h
          have hz97:((p.getD (b1.2.1.getD (b1.1.getD t.toNat (0,0,false,0,0,0,0,0)).2.2.2.1.toNat (0,0,0,0,0,0)).2.2.1.toNat []).getD (b1.1.getD t.toNat (0,0,false,0,0,0,0,0)).2.1.toNat (0,0,0,0)).2.1=1:=by simpa using hb96
          refine b9 6 (fun K' hK98=>?_)
          try dsimp only [y1,y2,y3,y4]
          simp only [go_sem,hb28,hb55,hb72,hb76,hb96,hz97]
          repeat with_reducible refine zN ?_
          refine hK98 _ ?_
          as_aux_lemma =>
           obtain ⟨c100,h⟩:=b5.1 h
           obtain ⟨c101,h⟩:=b5.1 h
           obtain ⟨c102,h⟩:=b5.1 h
           obtain ⟨c103,h⟩:=b5.1 h
           have hx104:(4+((p.getD (b1.2.1.getD (b1.1.getD t.toNat (0,0,false,0,0,0,0,0)).2.2.2.1.toNat (0,0,0,0,0,0)).2.2.1.toNat []).getD (b1.1.getD t.toNat (0,0,false,0,0,0,0,0)).2.1.toNat (0,0,0,0)).2.2.1.toNat*1)<8:=j9 c103
           refine b9 3 (fun K' hK99=>?_)
           try dsimp only [y1,y2,y3,y4]
           simp only [go_sem,hb28,hb55,hb72,hb76,hb96,hz97,c103]
           repeat with_reducible refine zN ?_
           refine hK99 _ ?_
           refine g6 ?_
           refine f7 ?_
           refine zV [(0,.bp 1000 0),(4,.ap 1001 8 t.toNat 0),(5,.ii p_4),(6,.ii (b1.2.1.getD (b1.1.getD t.toNat (0,0,false,0,0,0,0,0)).2.2.2.1.toNat (0,0,0,0,0,0)).2.2.1),(7,.ii (b1.1.getD t.toNat (0,0,false,0,0,0,0,0)).2.1),(8,.bp 8 0),(9,.ap 1001 8 t.toNat 4),(10,.ii 0),(162,.bool (decide (p_6=(b7 Y2 ((b1.1.set t.toNat ((b1.1.getD t.toNat (0,0,false,0,0,0,0,0)).1,((b1.1.getD t.toNat (0,0,false,0,0,0,0,0)).2.1+1),(b1.1.getD t.toNat (0,0,false,0,0,0,0,0)).2.2)).getD t.toNat (0,0,false,0,0,0,0,0)) (4+((p.getD (b1.2.1.getD (b1.1.getD t.toNat (0,0,false,0,0,0,0,0)).2.2.2.1.toNat (0,0,0,0,0,0)).2.2.1.toNat []).getD (b1.1.getD t.toNat (0,0,false,0,0,0,0,0)).2.1.toNat (0,0,0,0)).2.2.1.toNat*1)))))] [(8,.box 74 [.ii ((p.getD (b1.2.1.getD (b1.1.getD t.toNat (0,0,false,0,0,0,0,0)).2.2.2.1.toNat (0,0,0,0,0,0)).2.2.1.toNat []).getD (b1.1.getD t.toNat (0,0,false,0,0,0,0,0)).2.1.toNat (0,0,0,0)).1,.ii 1,.ii ((p.getD (b1.2.1.getD (b1.1.getD t.toNat (0,0,false,0,0,0,0,0)).2.2.2.1.toNat (0,0,0,0,0,0)).2.2.1.toNat []).getD (b1.1.getD t.toNat (0,0,false,0,0,0,0,0)).2.1.toNat (0,0,0,0)).2.2.1,.ii ((p.getD (b1.2.1.getD (b1.1.getD t.toNat (0,0,false,0,0,0,0,0)).2.2.2.1.toNat (0,0,0,0,0,0)).2.2.1.toNat []).getD (b1.1.getD t.toNat (0,0,false,0,0,0,0,0)).2.1.toNat (0,0,0,0)).2.2.2]),(72,.arr 68 Y0 b1.2.1),(81,.arr 3 .i b1.2.2),(1000,.box 97 [.sl (.sl Y4) p,.sl (.sl .i) p_2,.sl .i p_3,.own 1001,.ii (p_4+1),.ii p_5,.ii p_6,.ii p_7,.own 72,.own 81]),(1001,.arr 161 Y2 (b1.1.set t.toNat ((b1.1.getD t.toNat (0,0,false,0,0,0,0,0)).1,((b1.1.getD t.toNat (0,0,false,0,0,0,0,0)).2.1+1),(b1.1.getD t.toNat (0,0,false,0,0,0,0,0)).2.2)))] gt ?_
           as_aux_lemma =>
            refine zQ h (fun hb105 h=>?_) (fun hb105 h=>?_)
            ·refine AW.seq ?_
             refine AW.draw m8 l6 [(12,[1000])] [] (by decide) (n6 (by kernel_rfl)) ?_
             as_aux_lemma =>
              refine b9 6 (fun K' hK106=>?_)
              try dsimp only [y1,y2,y3,y4]
              simp only [go_sem,hb28,hb55,hb72,hb76,hb96,hz97,c103,hb105]
              repeat with_reducible refine zN ?_
              refine hK106 _ ?_
              as_aux_lemma =>
               obtain ⟨c108,h⟩:=b5.1 h
               obtain ⟨c109,h⟩:=b5.1 h
               obtain ⟨c110,h⟩:=b5.1 h
               obtain ⟨c111,h⟩:=b5.1 h
               have hx112:(4+((p.getD (b1.2.1.getD (b1.1.getD t.toNat (0,0,false,0,0,0,0,0)).2.2.2.1.toNat (0,0,0,0,0,0)).2.2.1.toNat []).getD (b1.1.getD t.toNat (0,0,false,0,0,0,0,0)).2.1.toNat (0,0,0,0)).2.2.2.toNat*1)<8:=j9 c111
               refine b9 6 (fun K' hK107=>?_)
               try dsimp only [y1,y2,y3,y4]
               simp only [go_sem,hb28,hb55,hb72,hb76,hb96,hz97,c103,hb105,c111]
               repeat with_reducible refine zN ?_
               refine hK107 _ ?_
               as_aux_lemma =>
                refine b9 1 (fun K' hK113=>?_)
                try dsimp only [y1,y2,y3,y4]
                simp only [go_sem,hb28,hb55,hb72,hb76,hb96,hz97,c103,hb105,c111]
                repeat with_reducible refine zN ?_
                refine hK113 _ ?_
                refine g6 ?_
                refine f7 ?_
                refine zV [(0,.bp 1000 0),(4,.ap 1001 8 t.toNat 0),(5,.ii p_4),(6,.ii (b1.2.1.getD (b1.1.getD t.toNat (0,0,false,0,0,0,0,0)).2.2.2.1.toNat (0,0,0,0,0,0)).2.2.1),(7,.ii (b1.1.getD t.toNat (0,0,false,0,0,0,0,0)).2.1),(9,.ap 1001 8 t.toNat 4)] [(72,.arr 68 Y0 b1.2.1),(81,.arr 3 .i b1.2.2),(1000,.box 97 [.sl (.sl Y4) p,.sl (.sl .i) p_2,.sl .i p_3,.own 1001,.ii (p_4+1),.ii p_5,.ii (b7 Y2 ((b1.1.set t.toNat ((b1.1.getD t.toNat (0,0,false,0,0,0,0,0)).1,((b1.1.getD t.toNat (0,0,false,0,0,0,0,0)).2.1+1),(b1.1.getD t.toNat (0,0,false,0,0,0,0,0)).2.2)).getD t.toNat (0,0,false,0,0,0,0,0)) (4+((p.getD (b1.2.1.getD (b1.1.getD t.toNat (0,0,false,0,0,0,0,0)).2.2.2.1.toNat (0,0,0,0,0,0)).2.2.1.toNat []).getD (b1.1.getD t.toNat (0,0,false,0,0,0,0,0)).2.1.toNat (0,0,0,0)).2.2.2.toNat*1)),.ii p_7,.own 72,.own 81]),(1001,.arr 161 Y2 (b1.1.set t.toNat ((b1.1.getD t.toNat (0,0,false,0,0,0,0,0)).1,((b1.1.getD t.toNat (0,0,false,0,0,0,0,0)).2.1+1),(b1.1.getD t.toNat (0,0,false,0,0,0,0,0)).2.2)))] gt ?_
                as_aux_lemma =>
                 refine AW.ops ?_
                 refine zB [(0,.bp 1000 0),(4,.ap 1001 8 t.toNat 0),(5,.ii p_4),(6,.ii (b1.2.1.getD (b1.1.getD t.toNat (0,0,false,0,0,0,0,0)).2.2.2.1.toNat (0,0,0,0,0,0)).2.2.1),(7,.ii (b1.1.getD t.toNat (0,0,false,0,0,0,0,0)).2.1),(9,.ap 1001 8 t.toNat 4),(10,.ii 1)] [(72,.arr 68 Y0 b1.2.1),(81,.arr 3 .i b1.2.2),(1000,.box 97 [.sl (.sl Y4) p,.sl (.sl .i) p_2,.sl .i p_3,.own 1001,.ii (p_4+1),.ii p_5,.ii (b7 Y2 ((b1.1.set t.toNat ((b1.1.getD t.toNat (0,0,false,0,0,0,0,0)).1,((b1.1.getD t.toNat (0,0,false,0,0,0,0,0)).2.1+1),(b1.1.getD t.toNat (0,0,false,0,0,0,0,0)).2.2)).getD t.toNat (0,0,false,0,0,0,0,0)) (4+((p.getD (b1.2.1.getD (b1.1.getD t.toNat (0,0,false,0,0,0,0,0)).2.2.2.1.toNat (0,0,0,0,0,0)).2.2.1.toNat []).getD (b1.1.getD t.toNat (0,0,false,0,0,0,0,0)).2.1.toNat (0,0,0,0)).2.2.2.toNat*1)),.ii p_7,.own 72,.own 81]),(1001,.arr 161 Y2 (b1.1.set t.toNat ((b1.1.getD t.toNat (0,0,false,0,0,0,0,0)).1,((b1.1.getD t.toNat (0,0,false,0,0,0,0,0)).2.1+1),(b1.1.getD t.toNat (0,0,false,0,0,0,0,0)).2.2)))] ?_ (h:=by (simp only [go_sem,hb28,hb55,hb72,hb76,hb96,hz97,c103,hb105,c111])<;>(with_reducible and_intros)<;>first|assumption|rfl|omega|(unfold maxLen; omega))
                 refine AW.ops ?_
                 obtain ⟨c114,h⟩:=b5.1 h
                 refine zA [(0,.bp 1000 0),(4,.ap 1001 8 t.toNat 0),(5,.ii p_4),(6,.ii (b1.2.1.getD (b1.1.getD t.toNat (0,0,false,0,0,0,0,0)).2.2.2.1.toNat (0,0,0,0,0,0)).2.2.1),(7,.ii (b1.1.getD t.toNat (0,0,false,0,0,0,0,0)).2.1)] [(72,.arr 68 Y0 b1.2.1),(81,.arr 3 .i b1.2.2),(1000,.box 97 [.sl (.sl Y4) p,.sl (.sl .i) p_2,.sl .i p_3,.own 1001,.ii (p_4+1),.ii p_5,.ii (b7 Y2 ((b1.1.set t.toNat ((b1.1.getD t.toNat (0,0,false,0,0,0,0,0)).1,((b1.1.getD t.toNat (0,0,false,0,0,0,0,0)).2.1+1),(b1.1.getD t.toNat (0,0,false,0,0,0,0,0)).2.2)).getD t.toNat (0,0,false,0,0,0,0,0)) (4+((p.getD (b1.2.1.getD (b1.1.getD t.toNat (0,0,false,0,0,0,0,0)).2.2.2.1.toNat (0,0,0,0,0,0)).2.2.1.toNat []).getD (b1.1.getD t.toNat (0,0,false,0,0,0,0,0)).2.1.toNat (0,0,0,0)).2.2.2.toNat*1)),.ii p_7,.own 72,.own 81]),(1001,.arr 161 Y2 ((b1.1.set t.toNat ((b1.1.getD t.toNat (0,0,false,0,0,0,0,0)).1,((b1.1.getD t.toNat (0,0,false,0,0,0,0,0)).2.1+1),(b1.1.getD t.toNat (0,0,false,0,0,0,0,0)).2.2)).set t.toNat (((b1.1.set t.toNat ((b1.1.getD t.toNat (0,0,false,0,0,0,0,0)).1,((b1.1.getD t.toNat (0,0,false,0,0,0,0,0)).2.1+1),(b1.1.getD t.toNat (0,0,false,0,0,0,0,0)).2.2)).getD t.toNat (0,0,false,0,0,0,0,0)).1,((b1.1.set t.toNat ((b1.1.getD t.toNat (0,0,false,0,0,0,0,0)).1,((b1.1.getD t.toNat (0,0,false,0,0,0,0,0)).2.1+1),(b1.1.getD t.toNat (0,0,false,0,0,0,0,0)).2.2)).getD t.toNat (0,0,false,0,0,0,0,0)).2.1,((b1.1.set t.toNat ((b1.1.getD t.toNat (0,0,false,0,0,0,0,0)).1,((b1.1.getD t.toNat (0,0,false,0,0,0,0,0)).2.1+1),(b1.1.getD t.toNat (0,0,false,0,0,0,0,0)).2.2)).getD t.toNat (0,0,false,0,0,0,0,0)).2.2.1,((b1.1.set t.toNat ((b1.1.getD t.toNat (0,0,false,0,0,0,0,0)).1,((b1.1.getD t.toNat (0,0,false,0,0,0,0,0)).2.1+1),(b1.1.getD t.toNat (0,0,false,0,0,0,0,0)).2.2)).getD t.toNat (0,0,false,0,0,0,0,0)).2.2.2.1,((b1.1.set t.toNat ((b1.1.getD t.toNat (0,0,false,0,0,0,0,0)).1,((b1.1.getD t.toNat (0,0,false,0,0,0,0,0)).2.1+1),(b1.1.getD t.toNat (0,0,false,0,0,0,0,0)).2.2)).getD t.toNat (0,0,false,0,0,0,0,0)).2.2.2.2.1,((b1.1.set t.toNat ((b1.1.getD t.toNat (0,0,false,0,0,0,0,0)).1,((b1.1.getD t.toNat (0,0,false,0,0,0,0,0)).2.1+1),(b1.1.getD t.toNat (0,0,false,0,0,0,0,0)).2.2)).getD t.toNat (0,0,false,0,0,0,0,0)).2.2.2.2.2.1,((b1.1.set t.toNat ((b1.1.getD t.toNat (0,0,false,0,0,0,0,0)).1,((b1.1.getD t.toNat (0,0,false,0,0,0,0,0)).2.1+1),(b1.1.getD t.toNat (0,0,false,0,0,0,0,0)).2.2)).getD t.toNat (0,0,false,0,0,0,0,0)).2.2.2.2.2.2.1,1)))] ?_ (h:=by (simp only [go_sem,hb28,hb55,hb72,hb76,hb96,hz97,c103,hb105,c111])<;>(with_reducible and_intros)<;>first|assumption|rfl|omega|(unfold maxLen; omega))
                 refine i6 ?_
                 refine f7 ?_
                 have hj:=hk_linealref08_Play_Step_2_k2 _ h
                 exact AW.weaken (zL [] [] []) hj
            refine zk ?_
            refine AW.ops ?_
            obtain ⟨c115,h⟩:=b5.1 h
            refine zA [(0,.bp 1000 0),(4,.ap 1001 8 t.toNat 0),(5,.ii p_4),(6,.ii (b1.2.1.getD (b1.1.getD t.toNat (0,0,false,0,0,0,0,0)).2.2.2.1.toNat (0,0,0,0,0,0)).2.2.1),(7,.ii (b1.1.getD t.toNat (0,0,false,0,0,0,0,0)).2.1)] [(72,.arr 68 Y0 b1.2.1),(81,.arr 3 .i b1.2.2),(1000,.box 97 [.sl (.sl Y4) p,.sl (.sl .i) p_2,.sl .i p_3,.own 1001,.ii (p_4+1),.ii p_5,.ii p_6,.ii p_7,.own 72,.own 81]),(1001,.arr 161 Y2 ((b1.1.set t.toNat ((b1.1.getD t.toNat (0,0,false,0,0,0,0,0)).1,((b1.1.getD t.toNat (0,0,false,0,0,0,0,0)).2.1+1),(b1.1.getD t.toNat (0,0,false,0,0,0,0,0)).2.2)).set t.toNat (((b1.1.set t.toNat ((b1.1.getD t.toNat (0,0,false,0,0,0,0,0)).1,((b1.1.getD t.toNat (0,0,false,0,0,0,0,0)).2.1+1),(b1.1.getD t.toNat (0,0,false,0,0,0,0,0)).2.2)).getD t.toNat (0,0,false,0,0,0,0,0)).1,((b1.1.set t.toNat ((b1.1.getD t.toNat (0,0,false,0,0,0,0,0)).1,((b1.1.getD t.toNat (0,0,false,0,0,0,0,0)).2.1+1),(b1.1.getD t.toNat (0,0,false,0,0,0,0,0)).2.2)).getD t.toNat (0,0,false,0,0,0,0,0)).2.1,((b1.1.set t.toNat ((b1.1.getD t.toNat (0,0,false,0,0,0,0,0)).1,((b1.1.getD t.toNat (0,0,false,0,0,0,0,0)).2.1+1),(b1.1.getD t.toNat (0,0,false,0,0,0,0,0)).2.2)).getD t.toNat (0,0,false,0,0,0,0,0)).2.2.1,((b1.1.set t.toNat ((b1.1.getD t.toNat (0,0,false,0,0,0,0,0)).1,((b1.1.getD t.toNat (0,0,false,0,0,0,0,0)).2.1+1),(b1.1.getD t.toNat (0,0,false,0,0,0,0,0)).2.2)).getD t.toNat (0,0,false,0,0,0,0,0)).2.2.2.1,((b1.1.set t.toNat ((b1.1.getD t.toNat (0,0,false,0,0,0,0,0)).1,((b1.1.getD t.toNat (0,0,false,0,0,0,0,0)).2.1+1),(b1.1.getD t.toNat (0,0,false,0,0,0,0,0)).2.2)).getD t.toNat (0,0,false,0,0,0,0,0)).2.2.2.2.1,((b1.1.set t.toNat ((b1.1.getD t.toNat (0,0,false,0,0,0,0,0)).1,((b1.1.getD t.toNat (0,0,false,0,0,0,0,0)).2.1+1),(b1.1.getD t.toNat (0,0,false,0,0,0,0,0)).2.2)).getD t.toNat (0,0,false,0,0,0,0,0)).2.2.2.2.2.1,((b1.1.set t.toNat ((b1.1.getD t.toNat (0,0,false,0,0,0,0,0)).1,((b1.1.getD t.toNat (0,0,false,0,0,0,0,0)).2.1+1),(b1.1.getD t.toNat (0,0,false,0,0,0,0,0)).2.2)).getD t.toNat (0,0,false,0,0,0,0,0)).2.2.2.2.2.2.1,0)))] ?_ (h:=by (simp only [go_sem,hb28,hb55,hb72,hb76,hb96,hz97,c103,hb105])<;>(with_reducible and_intros)<;>first|assumption|rfl|omega|(unfold maxLen; omega))
            refine i6 ?_
            refine f7 ?_
            have hj:=hk_linealref08_Play_Step_2_k2 _ h
            exact AW.weaken (zL [] [] []) hj
         rw [if_neg (Bool.eq_false_iff.1 hb96)] at h
         have hz97:((p.getD (b1.2.1.getD (b1.1.getD t.toNat (0,0,false,0,0,0,0,0)).2.2.2.1.toNat (0,0,0,0,0,0)).2.2.1.toNat []).getD (b1.1.getD t.toNat (0,0,false,0,0,0,0,0)).2.1.toNat (0,0,0,0)).2.1=2:=by have:=of_decide_eq_false hb76; have:=of_decide_eq_false hb96; omega
         refine b9 6 (fun K' hK116=>?_)
         try dsimp only [y1,y2,y3,y4]
         simp only [go_sem,hb28,hb55,hb72,hb76,hb96,hz97]
         repeat with_reducible refine zN ?_
         refine hK116 _ ?_
         as_aux_lemma =>
          obtain ⟨c118,h⟩:=b5.1 h
          obtain ⟨c119,h⟩:=b5.1 h
          obtain ⟨c120,h⟩:=b5.1 h
          obtain ⟨c121,h⟩:=b5.1 h
          have hx122:(4+((p.getD (b1.2.1.getD (b1.1.getD t.toNat (0,0,false,0,0,0,0,0)).2.2.2.1.toNat (0,0,0,0,0,0)).2.2.1.toNat []).getD (b1.1.getD t.toNat (0,0,false,0,0,0,0,0)).2.1.toNat (0,0,0,0)).2.2.1.toNat*1)<8:=j9 c121
          refine b9 3 (fun K' hK117=>?_)
          try dsimp only [y1,y2,y3,y4]
          simp only [go_sem,hb28,hb55,hb72,hb76,hb96,hz97,c121]
          repeat with_reducible refine zN ?_
          refine hK117 _ ?_
          refine g6 ?_
          refine f7 ?_
          refine zV [(0,.bp 1000 0),(4,.ap 1001 8 t.toNat 0),(5,.ii p_4),(6,.ii (b1.2.1.getD (b1.1.getD t.toNat (0,0,false,0,0,0,0,0)).2.2.2.1.toNat (0,0,0,0,0,0)).2.2.1),(7,.ii (b1.1.getD t.toNat (0,0,false,0,0,0,0,0)).2.1),(8,.bp 8 0),(9,.ap 1001 8 t.toNat 4),(10,.ii 0),(162,.bool (decide (p_7=(b7 Y2 ((b1.1.set t.toNat ((b1.1.getD t.toNat (0,0,false,0,0,0,0,0)).1,((b1.1.getD t.toNat (0,0,false,0,0,0,0,0)).2.1+1),(b1.1.getD t.toNat (0,0,false,0,0,0,0,0)).2.2)).getD t.toNat (0,0,false,0,0,0,0,0)) (4+((p.getD (b1.2.1.getD (b1.1.getD t.toNat (0,0,false,0,0,0,0,0)).2.2.2.1.toNat (0,0,0,0,0,0)).2.2.1.toNat []).getD (b1.1.getD t.toNat (0,0,false,0,0,0,0,0)).2.1.toNat (0,0,0,0)).2.2.1.toNat*1)))))] [(8,.box 74 [.ii ((p.getD (b1.2.1.getD (b1.1.getD t.toNat (0,0,false,0,0,0,0,0)).2.2.2.1.toNat (0,0,0,0,0,0)).2.2.1.toNat []).getD (b1.1.getD t.toNat (0,0,false,0,0,0,0,0)).2.1.toNat (0,0,0,0)).1,.ii 2,.ii ((p.getD (b1.2.1.getD (b1.1.getD t.toNat (0,0,false,0,0,0,0,0)).2.2.2.1.toNat (0,0,0,0,0,0)).2.2.1.toNat []).getD (b1.1.getD t.toNat (0,0,false,0,0,0,0,0)).2.1.toNat (0,0,0,0)).2.2.1,.ii ((p.getD (b1.2.1.getD (b1.1.getD t.toNat (0,0,false,0,0,0,0,0)).2.2.2.1.toNat (0,0,0,0,0,0)).2.2.1.toNat []).getD (b1.1.getD t.toNat (0,0,false,0,0,0,0,0)).2.1.toNat (0,0,0,0)).2.2.2]),(72,.arr 68 Y0 b1.2.1),(81,.arr 3 .i b1.2.2),(1000,.box 97 [.sl (.sl Y4) p,.sl (.sl .i) p_2,.sl .i p_3,.own 1001,.ii (p_4+1),.ii p_5,.ii p_6,.ii p_7,.own 72,.own 81]),(1001,.arr 161 Y2 (b1.1.set t.toNat ((b1.1.getD t.toNat (0,0,false,0,0,0,0,0)).1,((b1.1.getD t.toNat (0,0,false,0,0,0,0,0)).2.1+1),(b1.1.getD t.toNat (0,0,false,0,0,0,0,0)).2.2)))] gt ?_
          as_aux_lemma =>
           refine zQ h (fun hb123 h=>?_) (fun hb123 h=>?_)
           ·refine AW.seq ?_
            refine AW.draw m8 l6 [(12,[1000])] [] (by decide) (n6 (by kernel_rfl)) ?_
            as_aux_lemma =>
             refine b9 6 (fun K' hK124=>?_)
             try dsimp only [y1,y2,y3,y4]
             simp only [go_sem,hb28,hb55,hb72,hb76,hb96,hz97,c121,hb123]
             repeat with_reducible refine zN ?_
             refine hK124 _ ?_
             as_aux_lemma =>
              obtain ⟨c126,h⟩:=b5.1 h
              obtain ⟨c127,h⟩:=b5.1 h
              obtain ⟨c128,h⟩:=b5.1 h
              obtain ⟨c129,h⟩:=b5.1 h
              have hx130:(4+((p.getD (b1.2.1.getD (b1.1.getD t.toNat (0,0,false,0,0,0,0,0)).2.2.2.1.toNat (0,0,0,0,0,0)).2.2.1.toNat []).getD (b1.1.getD t.toNat (0,0,false,0,0,0,0,0)).2.1.toNat (0,0,0,0)).2.2.2.toNat*1)<8:=j9 c129
              refine b9 6 (fun K' hK125=>?_)
              try dsimp only [y1,y2,y3,y4]
              simp only [go_sem,hb28,hb55,hb72,hb76,hb96,hz97,c121,hb123,c129]
              repeat with_reducible refine zN ?_
              refine hK125 _ ?_
              as_aux_lemma =>
               refine b9 1 (fun K' hK131=>?_)
               try dsimp only [y1,y2,y3,y4]
               simp only [go_sem,hb28,hb55,hb72,hb76,hb96,hz97,c121,hb123,c129]
               repeat with_reducible refine zN ?_
               refine hK131 _ ?_
               refine g6 ?_
               refine f7 ?_
               refine zV [(0,.bp 1000 0),(4,.ap 1001 8 t.toNat 0),(5,.ii p_4),(6,.ii (b1.2.1.getD (b1.1.getD t.toNat (0,0,false,0,0,0,0,0)).2.2.2.1.toNat (0,0,0,0,0,0)).2.2.1),(7,.ii (b1.1.getD t.toNat (0,0,false,0,0,0,0,0)).2.1),(9,.ap 1001 8 t.toNat 4)] [(72,.arr 68 Y0 b1.2.1),(81,.arr 3 .i b1.2.2),(1000,.box 97 [.sl (.sl Y4) p,.sl (.sl .i) p_2,.sl .i p_3,.own 1001,.ii (p_4+1),.ii p_5,.ii p_6,.ii (b7 Y2 ((b1.1.set t.toNat ((b1.1.getD t.toNat (0,0,false,0,0,0,0,0)).1,((b1.1.getD t.toNat (0,0,false,0,0,0,0,0)).2.1+1),(b1.1.getD t.toNat (0,0,false,0,0,0,0,0)).2.2)).getD t.toNat (0,0,false,0,0,0,0,0)) (4+((p.getD (b1.2.1.getD (b1.1.getD t.toNat (0,0,false,0,0,0,0,0)).2.2.2.1.toNat (0,0,0,0,0,0)).2.2.1.toNat []).getD (b1.1.getD t.toNat (0,0,false,0,0,0,0,0)).2.1.toNat (0,0,0,0)).2.2.2.toNat*1)),.own 72,.own 81]),(1001,.arr 161 Y2 (b1.1.set t.toNat ((b1.1.getD t.toNat (0,0,false,0,0,0,0,0)).1,((b1.1.getD t.toNat (0,0,false,0,0,0,0,0)).2.1+1),(b1.1.getD t.toNat (0,0,false,0,0,0,0,0)).2.2)))] gt ?_
               as_aux_lemma =>
                refine AW.ops ?_
                refine zB [(0,.bp 1000 0),(4,.ap 1001 8 t.toNat 0),(5,.ii p_4),(6,.ii (b1.2.1.getD (b1.1.getD t.toNat (0,0,false,0,0,0,0,0)).2.2.2.1.toNat (0,0,0,0,0,0)).2.2.1),(7,.ii (b1.1.getD t.toNat (0,0,false,0,0,0,0,0)).2.1),(9,.ap 1001 8 t.toNat 4),(10,.ii 1)] [(72,.arr 68 Y0 b1.2.1),(81,.arr 3 .i b1.2.2),(1000,.box 97 [.sl (.sl Y4) p,.sl (.sl .i) p_2,.sl .i p_3,.own 1001,.ii (p_4+1),.ii p_5,.ii p_6,.ii (b7 Y2 ((b1.1.set t.toNat ((b1.1.getD t.toNat (0,0,false,0,0,0,0,0)).1,((b1.1.getD t.toNat (0,0,false,0,0,0,0,0)).2.1+1),(b1.1.getD t.toNat (0,0,false,0,0,0,0,0)).2.2)).getD t.toNat (0,0,false,0,0,0,0,0)) (4+((p.getD (b1.2.1.getD (b1.1.getD t.toNat (0,0,false,0,0,0,0,0)).2.2.2.1.toNat (0,0,0,0,0,0)).2.2.1.toNat []).getD (b1.1.getD t.toNat (0,0,false,0,0,0,0,0)).2.1.toNat (0,0,0,0)).2.2.2.toNat*1)),.own 72,.own 81]),(1001,.arr 161 Y2 (b1.1.set t.toNat ((b1.1.getD t.toNat (0,0,false,0,0,0,0,0)).1,((b1.1.getD t.toNat (0,0,false,0,0,0,0,0)).2.1+1),(b1.1.getD t.toNat (0,0,false,0,0,0,0,0)).2.2)))] ?_ (h:=by (simp only [go_sem,hb28,hb55,hb72,hb76,hb96,hz97,c121,hb123,c129])<;>(with_reducible and_intros)<;>first|assumption|rfl|omega|(unfold maxLen; omega))
                refine AW.ops ?_
                obtain ⟨c132,h⟩:=b5.1 h
                refine zA [(0,.bp 1000 0),(4,.ap 1001 8 t.toNat 0),(5,.ii p_4),(6,.ii (b1.2.1.getD (b1.1.getD t.toNat (0,0,false,0,0,0,0,0)).2.2.2.1.toNat (0,0,0,0,0,0)).2.2.1),(7,.ii (b1.1.getD t.toNat (0,0,false,0,0,0,0,0)).2.1)] [(72,.arr 68 Y0 b1.2.1),(81,.arr 3 .i b1.2.2),(1000,.box 97 [.sl (.sl Y4) p,.sl (.sl .i) p_2,.sl .i p_3,.own 1001,.ii (p_4+1),.ii p_5,.ii p_6,.ii (b7 Y2 ((b1.1.set t.toNat ((b1.1.getD t.toNat (0,0,false,0,0,0,0,0)).1,((b1.1.getD t.toNat (0,0,false,0,0,0,0,0)).2.1+1),(b1.1.getD t.toNat (0,0,false,0,0,0,0,0)).2.2)).getD t.toNat (0,0,false,0,0,0,0,0)) (4+((p.getD (b1.2.1.getD (b1.1.getD t.toNat (0,0,false,0,0,0,0,0)).2.2.2.1.toNat (0,0,0,0,0,0)).2.2.1.toNat []).getD (b1.1.getD t.toNat (0,0,false,0,0,0,0,0)).2.1.toNat (0,0,0,0)).2.2.2.toNat*1)),.own 72,.own 81]),(1001,.arr 161 Y2 ((b1.1.set t.toNat ((b1.1.getD t.toNat (0,0,false,0,0,0,0,0)).1,((b1.1.getD t.toNat (0,0,false,0,0,0,0,0)).2.1+1),(b1.1.getD t.toNat (0,0,false,0,0,0,0,0)).2.2)).set t.toNat (((b1.1.set t.toNat ((b1.1.getD t.toNat (0,0,false,0,0,0,0,0)).1,((b1.1.getD t.toNat (0,0,false,0,0,0,0,0)).2.1+1),(b1.1.getD t.toNat (0,0,false,0,0,0,0,0)).2.2)).getD t.toNat (0,0,false,0,0,0,0,0)).1,((b1.1.set t.toNat ((b1.1.getD t.toNat (0,0,false,0,0,0,0,0)).1,((b1.1.getD t.toNat (0,0,false,0,0,0,0,0)).2.1+1),(b1.1.getD t.toNat (0,0,false,0,0,0,0,0)).2.2)).getD t.toNat (0,0,false,0,0,0,0,0)).2.1,((b1.1.set t.toNat ((b1.1.getD t.toNat (0,0,false,0,0,0,0,0)).1,((b1.1.getD t.toNat (0,0,false,0,0,0,0,0)).2.1+1),(b1.1.getD t.toNat (0,0,false,0,0,0,0,0)).2.2)).getD t.toNat (0,0,false,0,0,0,0,0)).2.2.1,((b1.1.set t.toNat ((b1.1.getD t.toNat (0,0,false,0,0,0,0,0)).1,((b1.1.getD t.toNat (0,0,false,0,0,0,0,0)).2.1+1),(b1.1.getD t.toNat (0,0,false,0,0,0,0,0)).2.2)).getD t.toNat (0,0,false,0,0,0,0,0)).2.2.2.1,((b1.1.set t.toNat ((b1.1.getD t.toNat (0,0,false,0,0,0,0,0)).1,((b1.1.getD t.toNat (0,0,false,0,0,0,0,0)).2.1+1),(b1.1.getD t.toNat (0,0,false,0,0,0,0,0)).2.2)).getD t.toNat (0,0,false,0,0,0,0,0)).2.2.2.2.1,((b1.1.set t.toNat ((b1.1.getD t.toNat (0,0,false,0,0,0,0,0)).1,((b1.1.getD t.toNat (0,0,false,0,0,0,0,0)).2.1+1),(b1.1.getD t.toNat (0,0,false,0,0,0,0,0)).2.2)).getD t.toNat (0,0,false,0,0,0,0,0)).2.2.2.2.2.1,((b1.1.set t.toNat ((b1.1.getD t.toNat (0,0,false,0,0,0,0,0)).1,((b1.1.getD t.toNat (0,0,false,0,0,0,0,0)).2.1+1),(b1.1.getD t.toNat (0,0,false,0,0,0,0,0)).2.2)).getD t.toNat (0,0,false,0,0,0,0,0)).2.2.2.2.2.2.1,1)))] ?_ (h:=by (simp only [go_sem,hb28,hb55,hb72,hb76,hb96,hz97,c121,hb123,c129])<;>(with_reducible and_intros)<;>first|assumption|rfl|omega|(unfold maxLen; omega))
                refine i6 ?_
                refine f7 ?_
                have hj:=hk_linealref08_Play_Step_2_k2 _ h
                exact AW.weaken (zL [] [] []) hj
           refine zk ?_
           refine AW.ops ?_
           obtain ⟨c133,h⟩:=b5.1 h
           refine zA [(0,.bp 1000 0),(4,.ap 1001 8 t.toNat 0),(5,.ii p_4),(6,.ii (b1.2.1.getD (b1.1.getD t.toNat (0,0,false,0,0,0,0,0)).2.2.2.1.toNat (0,0,0,0,0,0)).2.2.1),(7,.ii (b1.1.getD t.toNat (0,0,false,0,0,0,0,0)).2.1)] [(72,.arr 68 Y0 b1.2.1),(81,.arr 3 .i b1.2.2),(1000,.box 97 [.sl (.sl Y4) p,.sl (.sl .i) p_2,.sl .i p_3,.own 1001,.ii (p_4+1),.ii p_5,.ii p_6,.ii p_7,.own 72,.own 81]),(1001,.arr 161 Y2 ((b1.1.set t.toNat ((b1.1.getD t.toNat (0,0,false,0,0,0,0,0)).1,((b1.1.getD t.toNat (0,0,false,0,0,0,0,0)).2.1+1),(b1.1.getD t.toNat (0,0,false,0,0,0,0,0)).2.2)).set t.toNat (((b1.1.set t.toNat ((b1.1.getD t.toNat (0,0,false,0,0,0,0,0)).1,((b1.1.getD t.toNat (0,0,false,0,0,0,0,0)).2.1+1),(b1.1.getD t.toNat (0,0,false,0,0,0,0,0)).2.2)).getD t.toNat (0,0,false,0,0,0,0,0)).1,((b1.1.set t.toNat ((b1.1.getD t.toNat (0,0,false,0,0,0,0,0)).1,((b1.1.getD t.toNat (0,0,false,0,0,0,0,0)).2.1+1),(b1.1.getD t.toNat (0,0,false,0,0,0,0,0)).2.2)).getD t.toNat (0,0,false,0,0,0,0,0)).2.1,((b1.1.set t.toNat ((b1.1.getD t.toNat (0,0,false,0,0,0,0,0)).1,((b1.1.getD t.toNat (0,0,false,0,0,0,0,0)).2.1+1),(b1.1.getD t.toNat (0,0,false,0,0,0,0,0)).2.2)).getD t.toNat (0,0,false,0,0,0,0,0)).2.2.1,((b1.1.set t.toNat ((b1.1.getD t.toNat (0,0,false,0,0,0,0,0)).1,((b1.1.getD t.toNat (0,0,false,0,0,0,0,0)).2.1+1),(b1.1.getD t.toNat (0,0,false,0,0,0,0,0)).2.2)).getD t.toNat (0,0,false,0,0,0,0,0)).2.2.2.1,((b1.1.set t.toNat ((b1.1.getD t.toNat (0,0,false,0,0,0,0,0)).1,((b1.1.getD t.toNat (0,0,false,0,0,0,0,0)).2.1+1),(b1.1.getD t.toNat (0,0,false,0,0,0,0,0)).2.2)).getD t.toNat (0,0,false,0,0,0,0,0)).2.2.2.2.1,((b1.1.set t.toNat ((b1.1.getD t.toNat (0,0,false,0,0,0,0,0)).1,((b1.1.getD t.toNat (0,0,false,0,0,0,0,0)).2.1+1),(b1.1.getD t.toNat (0,0,false,0,0,0,0,0)).2.2)).getD t.toNat (0,0,false,0,0,0,0,0)).2.2.2.2.2.1,((b1.1.set t.toNat ((b1.1.getD t.toNat (0,0,false,0,0,0,0,0)).1,((b1.1.getD t.toNat (0,0,false,0,0,0,0,0)).2.1+1),(b1.1.getD t.toNat (0,0,false,0,0,0,0,0)).2.2)).getD t.toNat (0,0,false,0,0,0,0,0)).2.2.2.2.2.2.1,0)))] ?_ (h:=by (simp only [go_sem,hb28,hb55,hb72,hb76,hb96,hz97,c121,hb123])<;>(with_reducible and_intros)<;>first|assumption|rfl|omega|(unfold maxLen; omega))
           refine i6 ?_
           refine f7 ?_
           have hj:=hk_linealref08_Play_Step_2_k2 _ h
           exact AW.weaken (zL [] [] []) hj
      refine zo ?_
      refine zB [(0,.bp 1000 0),(4,.ap 1001 8 t.toNat 0),(5,.ii p_4),(6,.ii (b1.2.1.getD (b1.1.getD t.toNat (0,0,false,0,0,0,0,0)).2.2.2.1.toNat (0,0,0,0,0,0)).2.2.1),(7,.ii (b1.1.getD t.toNat (0,0,false,0,0,0,0,0)).2.1),(8,.bp 8 0),(9,.ap 1001 8 t.toNat 4),(118,.ii ((p.getD (b1.2.1.getD (b1.1.getD t.toNat (0,0,false,0,0,0,0,0)).2.2.2.1.toNat (0,0,0,0,0,0)).2.2.1.toNat []).getD (b1.1.getD t.toNat (0,0,false,0,0,0,0,0)).2.1.toNat (0,0,0,0)).1),(179,.bool (decide (((p.getD (b1.2.1.getD (b1.1.getD t.toNat (0,0,false,0,0,0,0,0)).2.2.2.1.toNat (0,0,0,0,0,0)).2.2.1.toNat []).getD (b1.1.getD t.toNat (0,0,false,0,0,0,0,0)).2.1.toNat (0,0,0,0)).1=4)))] [(8,.box 74 [.ii ((p.getD (b1.2.1.getD (b1.1.getD t.toNat (0,0,false,0,0,0,0,0)).2.2.2.1.toNat (0,0,0,0,0,0)).2.2.1.toNat []).getD (b1.1.getD t.toNat (0,0,false,0,0,0,0,0)).2.1.toNat (0,0,0,0)).1,.ii ((p.getD (b1.2.1.getD (b1.1.getD t.toNat (0,0,false,0,0,0,0,0)).2.2.2.1.toNat (0,0,0,0,0,0)).2.2.1.toNat []).getD (b1.1.getD t.toNat (0,0,false,0,0,0,0,0)).2.1.toNat (0,0,0,0)).2.1,.ii ((p.getD (b1.2.1.getD (b1.1.getD t.toNat (0,0,false,0,0,0,0,0)).2.2.2.1.toNat (0,0,0,0,0,0)).2.2.1.toNat []).getD (b1.1.getD t.toNat (0,0,false,0,0,0,0,0)).2.1.toNat (0,0,0,0)).2.2.1,.ii ((p.getD (b1.2.1.getD (b1.1.getD t.toNat (0,0,false,0,0,0,0,0)).2.2.2.1.toNat (0,0,0,0,0,0)).2.2.1.toNat []).getD (b1.1.getD t.toNat (0,0,false,0,0,0,0,0)).2.1.toNat (0,0,0,0)).2.2.2]),(72,.arr 68 Y0 b1.2.1),(81,.arr 3 .i b1.2.2),(1000,.box 97 [.sl (.sl Y4) p,.sl (.sl .i) p_2,.sl .i p_3,.own 1001,.ii (p_4+1),.ii p_5,.ii p_6,.ii p_7,.own 72,.own 81]),(1001,.arr 161 Y2 (b1.1.set t.toNat ((b1.1.getD t.toNat (0,0,false,0,0,0,0,0)).1,((b1.1.getD t.toNat (0,0,false,0,0,0,0,0)).2.1+1),(b1.1.getD t.toNat (0,0,false,0,0,0,0,0)).2.2)))] ?_
      refine zQ h (fun hb134 h=>?_) (fun hb134 h=>?_)
      ·refine AW.draw m8 l6 [(7,[1001])] [] (by decide) (by kernel_rfl) ?_
       as_aux_lemma =>
        refine b9 6 (fun K' hK135=>?_)
        try dsimp only [y1,y2,y3,y4]
        simp only [go_sem,hb28,hb55,hb72,hb134]
        repeat with_reducible refine zN ?_
        refine hK135 _ ?_
        as_aux_lemma =>
         obtain ⟨c137,h⟩:=b5.1 h
         obtain ⟨c138,h⟩:=b5.1 h
         obtain ⟨c139,h⟩:=b5.1 h
         obtain ⟨c140,h⟩:=b5.1 h
         have hx141:(4+((p.getD (b1.2.1.getD (b1.1.getD t.toNat (0,0,false,0,0,0,0,0)).2.2.2.1.toNat (0,0,0,0,0,0)).2.2.1.toNat []).getD (b1.1.getD t.toNat (0,0,false,0,0,0,0,0)).2.1.toNat (0,0,0,0)).2.1.toNat*1)<8:=j9 c140
         refine b9 2 (fun K' hK136=>?_)
         try dsimp only [y1,y2,y3,y4]
         simp only [go_sem,hb28,hb55,hb72,hb134,c140]
         repeat with_reducible refine zN ?_
         refine hK136 _ ?_
         refine g6 ?_
         refine i6 ?_
         refine f7 ?_
         refine zV [(0,.bp 1000 0),(4,.ap 1001 8 t.toNat 0),(5,.ii p_4),(6,.ii (b1.2.1.getD (b1.1.getD t.toNat (0,0,false,0,0,0,0,0)).2.2.2.1.toNat (0,0,0,0,0,0)).2.2.1),(7,.ii (b1.1.getD t.toNat (0,0,false,0,0,0,0,0)).2.1)] [(72,.arr 68 Y0 b1.2.1),(81,.arr 3 .i b1.2.2),(1000,.box 97 [.sl (.sl Y4) p,.sl (.sl .i) p_2,.sl .i p_3,.own 1001,.ii (p_4+1),.ii p_5,.ii p_6,.ii p_7,.own 72,.own 81]),(1001,.arr 161 Y2 ((b1.1.set t.toNat ((b1.1.getD t.toNat (0,0,false,0,0,0,0,0)).1,((b1.1.getD t.toNat (0,0,false,0,0,0,0,0)).2.1+1),(b1.1.getD t.toNat (0,0,false,0,0,0,0,0)).2.2)).set t.toNat (f9 Y2 ((b1.1.set t.toNat ((b1.1.getD t.toNat (0,0,false,0,0,0,0,0)).1,((b1.1.getD t.toNat (0,0,false,0,0,0,0,0)).2.1+1),(b1.1.getD t.toNat (0,0,false,0,0,0,0,0)).2.2)).getD t.toNat (0,0,false,0,0,0,0,0)) (4+((p.getD (b1.2.1.getD (b1.1.getD t.toNat (0,0,false,0,0,0,0,0)).2.2.2.1.toNat (0,0,0,0,0,0)).2.2.1.toNat []).getD (b1.1.getD t.toNat (0,0,false,0,0,0,0,0)).2.1.toNat (0,0,0,0)).2.1.toNat*1) ((p.getD (b1.2.1.getD (b1.1.getD t.toNat (0,0,false,0,0,0,0,0)).2.2.2.1.toNat (0,0,0,0,0,0)).2.2.1.toNat []).getD (b1.1.getD t.toNat (0,0,false,0,0,0,0,0)).2.1.toNat (0,0,0,0)).2.2.1)))] gt ?_
         as_aux_lemma =>
          have hj:=hk_linealref08_Play_Step_2_k2 _ h
          exact AW.weaken (zL [] [] []) hj
      refine zo ?_
      refine zB [(0,.bp 1000 0),(4,.ap 1001 8 t.toNat 0),(5,.ii p_4),(6,.ii (b1.2.1.getD (b1.1.getD t.toNat (0,0,false,0,0,0,0,0)).2.2.2.1.toNat (0,0,0,0,0,0)).2.2.1),(7,.ii (b1.1.getD t.toNat (0,0,false,0,0,0,0,0)).2.1),(8,.bp 8 0),(9,.ap 1001 8 t.toNat 4),(118,.ii ((p.getD (b1.2.1.getD (b1.1.getD t.toNat (0,0,false,0,0,0,0,0)).2.2.2.1.toNat (0,0,0,0,0,0)).2.2.1.toNat []).getD (b1.1.getD t.toNat (0,0,false,0,0,0,0,0)).2.1.toNat (0,0,0,0)).1),(188,.bool (decide (((p.getD (b1.2.1.getD (b1.1.getD t.toNat (0,0,false,0,0,0,0,0)).2.2.2.1.toNat (0,0,0,0,0,0)).2.2.1.toNat []).getD (b1.1.getD t.toNat (0,0,false,0,0,0,0,0)).2.1.toNat (0,0,0,0)).1=5)))] [(8,.box 74 [.ii ((p.getD (b1.2.1.getD (b1.1.getD t.toNat (0,0,false,0,0,0,0,0)).2.2.2.1.toNat (0,0,0,0,0,0)).2.2.1.toNat []).getD (b1.1.getD t.toNat (0,0,false,0,0,0,0,0)).2.1.toNat (0,0,0,0)).1,.ii ((p.getD (b1.2.1.getD (b1.1.getD t.toNat (0,0,false,0,0,0,0,0)).2.2.2.1.toNat (0,0,0,0,0,0)).2.2.1.toNat []).getD (b1.1.getD t.toNat (0,0,false,0,0,0,0,0)).2.1.toNat (0,0,0,0)).2.1,.ii ((p.getD (b1.2.1.getD (b1.1.getD t.toNat (0,0,false,0,0,0,0,0)).2.2.2.1.toNat (0,0,0,0,0,0)).2.2.1.toNat []).getD (b1.1.getD t.toNat (0,0,false,0,0,0,0,0)).2.1.toNat (0,0,0,0)).2.2.1,.ii ((p.getD (b1.2.1.getD (b1.1.getD t.toNat (0,0,false,0,0,0,0,0)).2.2.2.1.toNat (0,0,0,0,0,0)).2.2.1.toNat []).getD (b1.1.getD t.toNat (0,0,false,0,0,0,0,0)).2.1.toNat (0,0,0,0)).2.2.2]),(72,.arr 68 Y0 b1.2.1),(81,.arr 3 .i b1.2.2),(1000,.box 97 [.sl (.sl Y4) p,.sl (.sl .i) p_2,.sl .i p_3,.own 1001,.ii (p_4+1),.ii p_5,.ii p_6,.ii p_7,.own 72,.own 81]),(1001,.arr 161 Y2 (b1.1.set t.toNat ((b1.1.getD t.toNat (0,0,false,0,0,0,0,0)).1,((b1.1.getD t.toNat (0,0,false,0,0,0,0,0)).2.1+1),(b1.1.getD t.toNat (0,0,false,0,0,0,0,0)).2.2)))] ?_
      refine zQ h (fun hb142 h=>?_) (fun hb142 h=>?_)
      ·refine AW.draw m8 l6 [(19,[1001])] [] (by decide) (n6 (by kernel_rfl)) ?_
       as_aux_lemma =>
        refine b9 6 (fun K' hK143=>?_)
        try dsimp only [y1,y2,y3,y4]
        simp only [go_sem,hb28,hb55,hb72,hb134,hb142]
        repeat with_reducible refine zN ?_
        refine hK143 _ ?_
        as_aux_lemma =>
         obtain ⟨c145,h⟩:=b5.1 h
         obtain ⟨c146,h⟩:=b5.1 h
         obtain ⟨c147,h⟩:=b5.1 h
         obtain ⟨c148,h⟩:=b5.1 h
         have hx149:(4+((p.getD (b1.2.1.getD (b1.1.getD t.toNat (0,0,false,0,0,0,0,0)).2.2.2.1.toNat (0,0,0,0,0,0)).2.2.1.toNat []).getD (b1.1.getD t.toNat (0,0,false,0,0,0,0,0)).2.1.toNat (0,0,0,0)).2.2.1.toNat*1)<8:=j9 c148
         refine b9 6 (fun K' hK144=>?_)
         try dsimp only [y1,y2,y3,y4]
         simp only [go_sem,hb28,hb55,hb72,hb134,hb142,c148]
         repeat with_reducible refine zN ?_
         refine hK144 _ ?_
         as_aux_lemma =>
          obtain ⟨c151,h⟩:=b5.1 h
          obtain ⟨c152,h⟩:=b5.1 h
          obtain ⟨c153,h⟩:=b5.1 h
          obtain ⟨c154,h⟩:=b5.1 h
          have hx155:(4+((p.getD (b1.2.1.getD (b1.1.getD t.toNat (0,0,false,0,0,0,0,0)).2.2.2.1.toNat (0,0,0,0,0,0)).2.2.1.toNat []).getD (b1.1.getD t.toNat (0,0,false,0,0,0,0,0)).2.1.toNat (0,0,0,0)).2.2.2.toNat*1)<8:=j9 c154
          obtain ⟨c156,h⟩:=b5.1 h
          obtain ⟨c157,h⟩:=b5.1 h
          refine b9 6 (fun K' hK150=>?_)
          try dsimp only [y1,y2,y3,y4]
          simp only [go_sem,hb28,hb55,hb72,hb134,hb142,c148,c154]
          repeat with_reducible refine zN ?_
          refine hK150 _ ?_
          as_aux_lemma =>
           obtain ⟨c159,h⟩:=b5.1 h
           obtain ⟨c160,h⟩:=b5.1 h
           obtain ⟨c161,h⟩:=b5.1 h
           obtain ⟨c162,h⟩:=b5.1 h
           have hx163:(4+((p.getD (b1.2.1.getD (b1.1.getD t.toNat (0,0,false,0,0,0,0,0)).2.2.2.1.toNat (0,0,0,0,0,0)).2.2.1.toNat []).getD (b1.1.getD t.toNat (0,0,false,0,0,0,0,0)).2.1.toNat (0,0,0,0)).2.1.toNat*1)<8:=j9 c162
           refine b9 2 (fun K' hK158=>?_)
           try dsimp only [y1,y2,y3,y4]
           simp only [go_sem,hb28,hb55,hb72,hb134,hb142,c148,c154,c162]
           repeat with_reducible refine zN ?_
           refine hK158 _ ?_
           refine g6 ?_
           refine i6 ?_
           refine f7 ?_
           refine zV [(0,.bp 1000 0),(4,.ap 1001 8 t.toNat 0),(5,.ii p_4),(6,.ii (b1.2.1.getD (b1.1.getD t.toNat (0,0,false,0,0,0,0,0)).2.2.2.1.toNat (0,0,0,0,0,0)).2.2.1),(7,.ii (b1.1.getD t.toNat (0,0,false,0,0,0,0,0)).2.1)] [(72,.arr 68 Y0 b1.2.1),(81,.arr 3 .i b1.2.2),(1000,.box 97 [.sl (.sl Y4) p,.sl (.sl .i) p_2,.sl .i p_3,.own 1001,.ii (p_4+1),.ii p_5,.ii p_6,.ii p_7,.own 72,.own 81]),(1001,.arr 161 Y2 ((b1.1.set t.toNat ((b1.1.getD t.toNat (0,0,false,0,0,0,0,0)).1,((b1.1.getD t.toNat (0,0,false,0,0,0,0,0)).2.1+1),(b1.1.getD t.toNat (0,0,false,0,0,0,0,0)).2.2)).set t.toNat (f9 Y2 ((b1.1.set t.toNat ((b1.1.getD t.toNat (0,0,false,0,0,0,0,0)).1,((b1.1.getD t.toNat (0,0,false,0,0,0,0,0)).2.1+1),(b1.1.getD t.toNat (0,0,false,0,0,0,0,0)).2.2)).getD t.toNat (0,0,false,0,0,0,0,0)) (4+((p.getD (b1.2.1.getD (b1.1.getD t.toNat (0,0,false,0,0,0,0,0)).2.2.2.1.toNat (0,0,0,0,0,0)).2.2.1.toNat []).getD (b1.1.getD t.toNat (0,0,false,0,0,0,0,0)).2.1.toNat (0,0,0,0)).2.1.toNat*1) (((b7 Y2 ((b1.1.set t.toNat ((b1.1.getD t.toNat (0,0,false,0,0,0,0,0)).1,((b1.1.getD t.toNat (0,0,false,0,0,0,0,0)).2.1+1),(b1.1.getD t.toNat (0,0,false,0,0,0,0,0)).2.2)).getD t.toNat (0,0,false,0,0,0,0,0)) (4+((p.getD (b1.2.1.getD (b1.1.getD t.toNat (0,0,false,0,0,0,0,0)).2.2.2.1.toNat (0,0,0,0,0,0)).2.2.1.toNat []).getD (b1.1.getD t.toNat (0,0,false,0,0,0,0,0)).2.1.toNat (0,0,0,0)).2.2.1.toNat*1))+(b7 Y2 ((b1.1.set t.toNat ((b1.1.getD t.toNat (0,0,false,0,0,0,0,0)).1,((b1.1.getD t.toNat (0,0,false,0,0,0,0,0)).2.1+1),(b1.1.getD t.toNat (0,0,false,0,0,0,0,0)).2.2)).getD t.toNat (0,0,false,0,0,0,0,0)) (4+((p.getD (b1.2.1.getD (b1.1.getD t.toNat (0,0,false,0,0,0,0,0)).2.2.2.1.toNat (0,0,0,0,0,0)).2.2.1.toNat []).getD (b1.1.getD t.toNat (0,0,false,0,0,0,0,0)).2.1.toNat (0,0,0,0)).2.2.2.toNat*1))) % 10))))] gt ?_
           as_aux_lemma =>
            have hj:=hk_linealref08_Play_Step_2_k2 _ h
            exact AW.weaken (zL [] [] []) hj
      refine zo ?_
      refine zB [(0,.bp 1000 0),(4,.ap 1001 8 t.toNat 0),(5,.ii p_4),(6,.ii (b1.2.1.getD (b1.1.getD t.toNat (0,0,false,0,0,0,0,0)).2.2.2.1.toNat (0,0,0,0,0,0)).2.2.1),(7,.ii (b1.1.getD t.toNat (0,0,false,0,0,0,0,0)).2.1),(8,.bp 8 0),(9,.ap 1001 8 t.toNat 4),(118,.ii ((p.getD (b1.2.1.getD (b1.1.getD t.toNat (0,0,false,0,0,0,0,0)).2.2.2.1.toNat (0,0,0,0,0,0)).2.2.1.toNat []).getD (b1.1.getD t.toNat (0,0,false,0,0,0,0,0)).2.1.toNat (0,0,0,0)).1),(209,.bool (decide (((p.getD (b1.2.1.getD (b1.1.getD t.toNat (0,0,false,0,0,0,0,0)).2.2.2.1.toNat (0,0,0,0,0,0)).2.2.1.toNat []).getD (b1.1.getD t.toNat (0,0,false,0,0,0,0,0)).2.1.toNat (0,0,0,0)).1=6)))] [(8,.box 74 [.ii ((p.getD (b1.2.1.getD (b1.1.getD t.toNat (0,0,false,0,0,0,0,0)).2.2.2.1.toNat (0,0,0,0,0,0)).2.2.1.toNat []).getD (b1.1.getD t.toNat (0,0,false,0,0,0,0,0)).2.1.toNat (0,0,0,0)).1,.ii ((p.getD (b1.2.1.getD (b1.1.getD t.toNat (0,0,false,0,0,0,0,0)).2.2.2.1.toNat (0,0,0,0,0,0)).2.2.1.toNat []).getD (b1.1.getD t.toNat (0,0,false,0,0,0,0,0)).2.1.toNat (0,0,0,0)).2.1,.ii ((p.getD (b1.2.1.getD (b1.1.getD t.toNat (0,0,false,0,0,0,0,0)).2.2.2.1.toNat (0,0,0,0,0,0)).2.2.1.toNat []).getD (b1.1.getD t.toNat (0,0,false,0,0,0,0,0)).2.1.toNat (0,0,0,0)).2.2.1,.ii ((p.getD (b1.2.1.getD (b1.1.getD t.toNat (0,0,false,0,0,0,0,0)).2.2.2.1.toNat (0,0,0,0,0,0)).2.2.1.toNat []).getD (b1.1.getD t.toNat (0,0,false,0,0,0,0,0)).2.1.toNat (0,0,0,0)).2.2.2]),(72,.arr 68 Y0 b1.2.1),(81,.arr 3 .i b1.2.2),(1000,.box 97 [.sl (.sl Y4) p,.sl (.sl .i) p_2,.sl .i p_3,.own 1001,.ii (p_4+1),.ii p_5,.ii p_6,.ii p_7,.own 72,.own 81]),(1001,.arr 161 Y2 (b1.1.set t.toNat ((b1.1.getD t.toNat (0,0,false,0,0,0,0,0)).1,((b1.1.getD t.toNat (0,0,false,0,0,0,0,0)).2.1+1),(b1.1.getD t.toNat (0,0,false,0,0,0,0,0)).2.2)))] ?_
      refine zQ h (fun hb164 h=>?_) (fun hb164 h=>?_)
      ·refine AW.seq ?_
       refine AW.draw m8 l6 [] [] (by decide) (by kernel_rfl) ?_
       as_aux_lemma =>
        obtain ⟨c166,h⟩:=b5.1 h
        obtain ⟨c167,h⟩:=b5.1 h
        obtain ⟨c168,h⟩:=b5.1 h
        obtain ⟨c169,h⟩:=b5.1 h
        have hx170:(4+((p.getD (b1.2.1.getD (b1.1.getD t.toNat (0,0,false,0,0,0,0,0)).2.2.2.1.toNat (0,0,0,0,0,0)).2.2.1.toNat []).getD (b1.1.getD t.toNat (0,0,false,0,0,0,0,0)).2.1.toNat (0,0,0,0)).2.1.toNat*1)<8:=j9 c169
        refine b9 6 (fun K' hK165=>?_)
        try dsimp only [y1,y2,y3,y4]
        simp only [go_sem,hb28,hb55,hb72,hb134,hb142,hb164,c169]
        repeat with_reducible refine zN ?_
        refine hK165 _ ?_
        as_aux_lemma =>
         refine b9 1 (fun K' hK171=>?_)
         try dsimp only [y1,y2,y3,y4]
         simp only [go_sem,hb28,hb55,hb72,hb134,hb142,hb164,c169]
         repeat with_reducible refine zN ?_
         refine hK171 _ ?_
         refine g6 ?_
         refine f7 ?_
         refine zV [(0,.bp 1000 0),(4,.ap 1001 8 t.toNat 0),(5,.ii p_4),(6,.ii (b1.2.1.getD (b1.1.getD t.toNat (0,0,false,0,0,0,0,0)).2.2.2.1.toNat (0,0,0,0,0,0)).2.2.1),(7,.ii (b1.1.getD t.toNat (0,0,false,0,0,0,0,0)).2.1),(8,.bp 8 0),(217,.bool (decide ((b7 Y2 ((b1.1.set t.toNat ((b1.1.getD t.toNat (0,0,false,0,0,0,0,0)).1,((b1.1.getD t.toNat (0,0,false,0,0,0,0,0)).2.1+1),(b1.1.getD t.toNat (0,0,false,0,0,0,0,0)).2.2)).getD t.toNat (0,0,false,0,0,0,0,0)) (4+((p.getD (b1.2.1.getD (b1.1.getD t.toNat (0,0,false,0,0,0,0,0)).2.2.2.1.toNat (0,0,0,0,0,0)).2.2.1.toNat []).getD (b1.1.getD t.toNat (0,0,false,0,0,0,0,0)).2.1.toNat (0,0,0,0)).2.1.toNat*1))=0)))] [(8,.box 74 [.ii ((p.getD (b1.2.1.getD (b1.1.getD t.toNat (0,0,false,0,0,0,0,0)).2.2.2.1.toNat (0,0,0,0,0,0)).2.2.1.toNat []).getD (b1.1.getD t.toNat (0,0,false,0,0,0,0,0)).2.1.toNat (0,0,0,0)).1,.ii ((p.getD (b1.2.1.getD (b1.1.getD t.toNat (0,0,false,0,0,0,0,0)).2.2.2.1.toNat (0,0,0,0,0,0)).2.2.1.toNat []).getD (b1.1.getD t.toNat (0,0,false,0,0,0,0,0)).2.1.toNat (0,0,0,0)).2.1,.ii ((p.getD (b1.2.1.getD (b1.1.getD t.toNat (0,0,false,0,0,0,0,0)).2.2.2.1.toNat (0,0,0,0,0,0)).2.2.1.toNat []).getD (b1.1.getD t.toNat (0,0,false,0,0,0,0,0)).2.1.toNat (0,0,0,0)).2.2.1,.ii ((p.getD (b1.2.1.getD (b1.1.getD t.toNat (0,0,false,0,0,0,0,0)).2.2.2.1.toNat (0,0,0,0,0,0)).2.2.1.toNat []).getD (b1.1.getD t.toNat (0,0,false,0,0,0,0,0)).2.1.toNat (0,0,0,0)).2.2.2]),(72,.arr 68 Y0 b1.2.1),(81,.arr 3 .i b1.2.2),(1000,.box 97 [.sl (.sl Y4) p,.sl (.sl .i) p_2,.sl .i p_3,.own 1001,.ii (p_4+1),.ii p_5,.ii p_6,.ii p_7,.own 72,.own 81]),(1001,.arr 161 Y2 (b1.1.set t.toNat ((b1.1.getD t.toNat (0,0,false,0,0,0,0,0)).1,((b1.1.getD t.toNat (0,0,false,0,0,0,0,0)).2.1+1),(b1.1.getD t.toNat (0,0,false,0,0,0,0,0)).2.2)))] gt ?_
         as_aux_lemma =>
          refine zQ h (fun hb172 h=>?_) (fun hb172 h=>?_)
          ·refine AW.ops ?_
           refine zS 5 [(0,.bp 1000 0),(4,.ap 1001 8 t.toNat 0),(5,.ii p_4),(6,.ii (b1.2.1.getD (b1.1.getD t.toNat (0,0,false,0,0,0,0,0)).2.2.2.1.toNat (0,0,0,0,0,0)).2.2.1),(7,.ii (b1.1.getD t.toNat (0,0,false,0,0,0,0,0)).2.1),(220,.ii ((p.getD (b1.2.1.getD (b1.1.getD t.toNat (0,0,false,0,0,0,0,0)).2.2.2.1.toNat (0,0,0,0,0,0)).2.2.1.toNat []).getD (b1.1.getD t.toNat (0,0,false,0,0,0,0,0)).2.1.toNat (0,0,0,0)).2.2.1),(222,.ap 1001 8 t.toNat 1)] [(72,.arr 68 Y0 b1.2.1),(81,.arr 3 .i b1.2.2),(1000,.box 97 [.sl (.sl Y4) p,.sl (.sl .i) p_2,.sl .i p_3,.own 1001,.ii (p_4+1),.ii p_5,.ii p_6,.ii p_7,.own 72,.own 81]),(1001,.arr 161 Y2 (b1.1.set t.toNat ((b1.1.getD t.toNat (0,0,false,0,0,0,0,0)).1,((b1.1.getD t.toNat (0,0,false,0,0,0,0,0)).2.1+1),(b1.1.getD t.toNat (0,0,false,0,0,0,0,0)).2.2)))] ?_ (h:=by (simp only [go_sem,hb28,hb55,hb72,hb134,hb142,hb164,c169,hb172])<;>(with_reducible and_intros)<;>first|assumption|rfl|omega|(unfold maxLen; omega))
           obtain ⟨c173,h⟩:=b5.1 h
           refine zA [(0,.bp 1000 0),(4,.ap 1001 8 t.toNat 0),(5,.ii p_4),(6,.ii (b1.2.1.getD (b1.1.getD t.toNat (0,0,false,0,0,0,0,0)).2.2.2.1.toNat (0,0,0,0,0,0)).2.2.1),(7,.ii (b1.1.getD t.toNat (0,0,false,0,0,0,0,0)).2.1)] [(72,.arr 68 Y0 b1.2.1),(81,.arr 3 .i b1.2.2),(1000,.box 97 [.sl (.sl Y4) p,.sl (.sl .i) p_2,.sl .i p_3,.own 1001,.ii (p_4+1),.ii p_5,.ii p_6,.ii p_7,.own 72,.own 81]),(1001,.arr 161 Y2 ((b1.1.set t.toNat ((b1.1.getD t.toNat (0,0,false,0,0,0,0,0)).1,((b1.1.getD t.toNat (0,0,false,0,0,0,0,0)).2.1+1),(b1.1.getD t.toNat (0,0,false,0,0,0,0,0)).2.2)).set t.toNat (((b1.1.set t.toNat ((b1.1.getD t.toNat (0,0,false,0,0,0,0,0)).1,((b1.1.getD t.toNat (0,0,false,0,0,0,0,0)).2.1+1),(b1.1.getD t.toNat (0,0,false,0,0,0,0,0)).2.2)).getD t.toNat (0,0,false,0,0,0,0,0)).1,((p.getD (b1.2.1.getD (b1.1.getD t.toNat (0,0,false,0,0,0,0,0)).2.2.2.1.toNat (0,0,0,0,0,0)).2.2.1.toNat []).getD (b1.1.getD t.toNat (0,0,false,0,0,0,0,0)).2.1.toNat (0,0,0,0)).2.2.1,((b1.1.set t.toNat ((b1.1.getD t.toNat (0,0,false,0,0,0,0,0)).1,((b1.1.getD t.toNat (0,0,false,0,0,0,0,0)).2.1+1),(b1.1.getD t.toNat (0,0,false,0,0,0,0,0)).2.2)).getD t.toNat (0,0,false,0,0,0,0,0)).2.2)))] ?_ (h:=by (simp only [go_sem,hb28,hb55,hb72,hb134,hb142,hb164,c169,hb172])<;>(with_reducible and_intros)<;>first|assumption|rfl|omega|(unfold maxLen; omega))
           refine i6 ?_
           refine f7 ?_
           have hj:=hk_linealref08_Play_Step_2_k2 _ h
           exact AW.weaken (zL [] [] []) hj
          refine zm ?_
          refine f7 ?_
          have hj:=hk_linealref08_Play_Step_2_k2 _ h
          exact AW.weaken (zL [] [] []) hj
      refine zo ?_
      refine zB [(0,.bp 1000 0),(4,.ap 1001 8 t.toNat 0),(5,.ii p_4),(6,.ii (b1.2.1.getD (b1.1.getD t.toNat (0,0,false,0,0,0,0,0)).2.2.2.1.toNat (0,0,0,0,0,0)).2.2.1),(7,.ii (b1.1.getD t.toNat (0,0,false,0,0,0,0,0)).2.1),(8,.bp 8 0),(9,.ap 1001 8 t.toNat 4),(223,.bool (decide (((p.getD (b1.2.1.getD (b1.1.getD t.toNat (0,0,false,0,0,0,0,0)).2.2.2.1.toNat (0,0,0,0,0,0)).2.2.1.toNat []).getD (b1.1.getD t.toNat (0,0,false,0,0,0,0,0)).2.1.toNat (0,0,0,0)).1=7)))] [(8,.box 74 [.ii ((p.getD (b1.2.1.getD (b1.1.getD t.toNat (0,0,false,0,0,0,0,0)).2.2.2.1.toNat (0,0,0,0,0,0)).2.2.1.toNat []).getD (b1.1.getD t.toNat (0,0,false,0,0,0,0,0)).2.1.toNat (0,0,0,0)).1,.ii ((p.getD (b1.2.1.getD (b1.1.getD t.toNat (0,0,false,0,0,0,0,0)).2.2.2.1.toNat (0,0,0,0,0,0)).2.2.1.toNat []).getD (b1.1.getD t.toNat (0,0,false,0,0,0,0,0)).2.1.toNat (0,0,0,0)).2.1,.ii ((p.getD (b1.2.1.getD (b1.1.getD t.toNat (0,0,false,0,0,0,0,0)).2.2.2.1.toNat (0,0,0,0,0,0)).2.2.1.toNat []).getD (b1.1.getD t.toNat (0,0,false,0,0,0,0,0)).2.1.toNat (0,0,0,0)).2.2.1,.ii ((p.getD (b1.2.1.getD (b1.1.getD t.toNat (0,0,false,0,0,0,0,0)).2.2.2.1.toNat (0,0,0,0,0,0)).2.2.1.toNat []).getD (b1.1.getD t.toNat (0,0,false,0,0,0,0,0)).2.1.toNat (0,0,0,0)).2.2.2]),(72,.arr 68 Y0 b1.2.1),(81,.arr 3 .i b1.2.2),(1000,.box 97 [.sl (.sl Y4) p,.sl (.sl .i) p_2,.sl .i p_3,.own 1001,.ii (p_4+1),.ii p_5,.ii p_6,.ii p_7,.own 72,.own 81]),(1001,.arr 161 Y2 (b1.1.set t.toNat ((b1.1.getD t.toNat (0,0,false,0,0,0,0,0)).1,((b1.1.getD t.toNat (0,0,false,0,0,0,0,0)).2.1+1),(b1.1.getD t.toNat (0,0,false,0,0,0,0,0)).2.2)))] ?_
      refine zQ h (fun hb174 h=>?_) (fun hb174 h=>?_)
      ·refine AW.seq ?_
       refine AW.draw m8 l6 [(13,[72])] [] (by decide) (n6 (by kernel_rfl)) ?_
       as_aux_lemma =>
        refine b9 6 (fun K' hK175=>?_)
        try dsimp only [y1,y2,y3,y4]
        simp only [go_sem,hb28,hb55,hb72,hb134,hb142,hb164,hb174]
        repeat with_reducible refine zN ?_
        refine hK175 _ ?_
        as_aux_lemma =>
         obtain ⟨c177,h⟩:=b5.1 h
         obtain ⟨c178,h⟩:=b5.1 h
         obtain ⟨c179,h⟩:=b5.1 h
         obtain ⟨c180,h⟩:=b5.1 h
         obtain ⟨c181,h⟩:=b5.1 h
         refine b9 6 (fun K' hK176=>?_)
         try dsimp only [y1,y2,y3,y4]
         simp only [go_sem,hb28,hb55,hb72,hb134,hb142,hb164,hb174]
         repeat with_reducible refine zN ?_
         refine hK176 _ ?_
         as_aux_lemma =>
          obtain ⟨c183,h⟩:=b5.1 h
          refine b9 2 (fun K' hK182=>?_)
          try dsimp only [y1,y2,y3,y4]
          simp only [go_sem,hb28,hb55,hb72,hb134,hb142,hb164,hb174]
          repeat with_reducible refine zN ?_
          refine hK182 _ ?_
          refine g6 ?_
          refine f7 ?_
          refine zV [(0,.bp 1000 0),(4,.ap 1001 8 t.toNat 0),(5,.ii p_4),(6,.ii (b1.2.1.getD (b1.1.getD t.toNat (0,0,false,0,0,0,0,0)).2.2.2.1.toNat (0,0,0,0,0,0)).2.2.1),(7,.ii (b1.1.getD t.toNat (0,0,false,0,0,0,0,0)).2.1),(8,.bp 8 0),(9,.ap 1001 8 t.toNat 4)] [(8,.box 74 [.ii ((p.getD (b1.2.1.getD (b1.1.getD t.toNat (0,0,false,0,0,0,0,0)).2.2.2.1.toNat (0,0,0,0,0,0)).2.2.1.toNat []).getD (b1.1.getD t.toNat (0,0,false,0,0,0,0,0)).2.1.toNat (0,0,0,0)).1,.ii ((p.getD (b1.2.1.getD (b1.1.getD t.toNat (0,0,false,0,0,0,0,0)).2.2.2.1.toNat (0,0,0,0,0,0)).2.2.1.toNat []).getD (b1.1.getD t.toNat (0,0,false,0,0,0,0,0)).2.1.toNat (0,0,0,0)).2.1,.ii ((p.getD (b1.2.1.getD (b1.1.getD t.toNat (0,0,false,0,0,0,0,0)).2.2.2.1.toNat (0,0,0,0,0,0)).2.2.1.toNat []).getD (b1.1.getD t.toNat (0,0,false,0,0,0,0,0)).2.1.toNat (0,0,0,0)).2.2.1,.ii ((p.getD (b1.2.1.getD (b1.1.getD t.toNat (0,0,false,0,0,0,0,0)).2.2.2.1.toNat (0,0,0,0,0,0)).2.2.1.toNat []).getD (b1.1.getD t.toNat (0,0,false,0,0,0,0,0)).2.1.toNat (0,0,0,0)).2.2.2]),(72,.arr 68 Y0 (b1.2.1.set ((b1.1.set t.toNat ((b1.1.getD t.toNat (0,0,false,0,0,0,0,0)).1,((b1.1.getD t.toNat (0,0,false,0,0,0,0,0)).2.1+1),(b1.1.getD t.toNat (0,0,false,0,0,0,0,0)).2.2)).getD t.toNat (0,0,false,0,0,0,0,0)).2.2.2.1.toNat ((b1.2.1.getD ((b1.1.set t.toNat ((b1.1.getD t.toNat (0,0,false,0,0,0,0,0)).1,((b1.1.getD t.toNat (0,0,false,0,0,0,0,0)).2.1+1),(b1.1.getD t.toNat (0,0,false,0,0,0,0,0)).2.2)).getD t.toNat (0,0,false,0,0,0,0,0)).2.2.2.1.toNat (0,0,0,0,0,0)).1,(b1.2.1.getD ((b1.1.set t.toNat ((b1.1.getD t.toNat (0,0,false,0,0,0,0,0)).1,((b1.1.getD t.toNat (0,0,false,0,0,0,0,0)).2.1+1),(b1.1.getD t.toNat (0,0,false,0,0,0,0,0)).2.2)).getD t.toNat (0,0,false,0,0,0,0,0)).2.2.2.1.toNat (0,0,0,0,0,0)).2.1,(b1.2.1.getD ((b1.1.set t.toNat ((b1.1.getD t.toNat (0,0,false,0,0,0,0,0)).1,((b1.1.getD t.toNat (0,0,false,0,0,0,0,0)).2.1+1),(b1.1.getD t.toNat (0,0,false,0,0,0,0,0)).2.2)).getD t.toNat (0,0,false,0,0,0,0,0)).2.2.2.1.toNat (0,0,0,0,0,0)).2.2.1,(b1.2.1.getD ((b1.1.set t.toNat ((b1.1.getD t.toNat (0,0,false,0,0,0,0,0)).1,((b1.1.getD t.toNat (0,0,false,0,0,0,0,0)).2.1+1),(b1.1.getD t.toNat (0,0,false,0,0,0,0,0)).2.2)).getD t.toNat (0,0,false,0,0,0,0,0)).2.2.2.1.toNat (0,0,0,0,0,0)).2.2.2.1,(b1.2.1.getD ((b1.1.set t.toNat ((b1.1.getD t.toNat (0,0,false,0,0,0,0,0)).1,((b1.1.getD t.toNat (0,0,false,0,0,0,0,0)).2.1+1),(b1.1.getD t.toNat (0,0,false,0,0,0,0,0)).2.2)).getD t.toNat (0,0,false,0,0,0,0,0)).2.2.2.1.toNat (0,0,0,0,0,0)).2.2.2.2.1,((2*p_4)+2)))),(81,.arr 3 .i b1.2.2),(1000,.box 97 [.sl (.sl Y4) p,.sl (.sl .i) p_2,.sl .i p_3,.own 1001,.ii (p_4+1),.ii p_5,.ii p_6,.ii p_7,.own 72,.own 81]),(1001,.arr 161 Y2 (b1.1.set t.toNat ((b1.1.getD t.toNat (0,0,false,0,0,0,0,0)).1,((b1.1.getD t.toNat (0,0,false,0,0,0,0,0)).2.1+1),(b1.1.getD t.toNat (0,0,false,0,0,0,0,0)).2.2)))] gt ?_
          as_aux_lemma =>
           refine AW.seq ?_
           refine AW.draw m8 l6 [(16,[72])] [] (by decide) (n6 (by kernel_rfl)) ?_
           as_aux_lemma =>
            refine b9 6 (fun K' hK184=>?_)
            try dsimp only [y1,y2,y3,y4]
            simp only [go_sem,hb28,hb55,hb72,hb134,hb142,hb164,hb174]
            repeat with_reducible refine zN ?_
            refine hK184 _ ?_
            as_aux_lemma =>
             obtain ⟨c186,h⟩:=b5.1 h
             refine b9 6 (fun K' hK185=>?_)
             try dsimp only [y1,y2,y3,y4]
             simp only [go_sem,hb28,hb55,hb72,hb134,hb142,hb164,hb174]
             repeat with_reducible refine zN ?_
             refine hK185 _ ?_
             as_aux_lemma =>
              obtain ⟨c188,h⟩:=b5.1 h
              obtain ⟨c189,h⟩:=b5.1 h
              obtain ⟨c190,h⟩:=b5.1 h
              obtain ⟨c191,h⟩:=b5.1 h
              have hx192:(4+((p.getD (b1.2.1.getD (b1.1.getD t.toNat (0,0,false,0,0,0,0,0)).2.2.2.1.toNat (0,0,0,0,0,0)).2.2.1.toNat []).getD (b1.1.getD t.toNat (0,0,false,0,0,0,0,0)).2.1.toNat (0,0,0,0)).2.1.toNat*1)<8:=j9 c191
              obtain ⟨c193,h⟩:=b5.1 h
              obtain ⟨c194,h⟩:=b5.1 h
              obtain ⟨c195,h⟩:=b5.1 h
              refine b9 5 (fun K' hK187=>?_)
              try dsimp only [y1,y2,y3,y4]
              simp only [go_sem,hb28,hb55,hb72,hb134,hb142,hb164,hb174,c191]
              repeat with_reducible refine zN ?_
              refine hK187 _ ?_
              refine g6 ?_
              refine f7 ?_
              refine zV [(0,.bp 1000 0),(4,.ap 1001 8 t.toNat 0),(5,.ii p_4),(6,.ii (b1.2.1.getD (b1.1.getD t.toNat (0,0,false,0,0,0,0,0)).2.2.2.1.toNat (0,0,0,0,0,0)).2.2.1),(7,.ii (b1.1.getD t.toNat (0,0,false,0,0,0,0,0)).2.1)] [(72,.arr 68 Y0 ((b1.2.1.set ((b1.1.set t.toNat ((b1.1.getD t.toNat (0,0,false,0,0,0,0,0)).1,((b1.1.getD t.toNat (0,0,false,0,0,0,0,0)).2.1+1),(b1.1.getD t.toNat (0,0,false,0,0,0,0,0)).2.2)).getD t.toNat (0,0,false,0,0,0,0,0)).2.2.2.1.toNat ((b1.2.1.getD ((b1.1.set t.toNat ((b1.1.getD t.toNat (0,0,false,0,0,0,0,0)).1,((b1.1.getD t.toNat (0,0,false,0,0,0,0,0)).2.1+1),(b1.1.getD t.toNat (0,0,false,0,0,0,0,0)).2.2)).getD t.toNat (0,0,false,0,0,0,0,0)).2.2.2.1.toNat (0,0,0,0,0,0)).1,(b1.2.1.getD ((b1.1.set t.toNat ((b1.1.getD t.toNat (0,0,false,0,0,0,0,0)).1,((b1.1.getD t.toNat (0,0,false,0,0,0,0,0)).2.1+1),(b1.1.getD t.toNat (0,0,false,0,0,0,0,0)).2.2)).getD t.toNat (0,0,false,0,0,0,0,0)).2.2.2.1.toNat (0,0,0,0,0,0)).2.1,(b1.2.1.getD ((b1.1.set t.toNat ((b1.1.getD t.toNat (0,0,false,0,0,0,0,0)).1,((b1.1.getD t.toNat (0,0,false,0,0,0,0,0)).2.1+1),(b1.1.getD t.toNat (0,0,false,0,0,0,0,0)).2.2)).getD t.toNat (0,0,false,0,0,0,0,0)).2.2.2.1.toNat (0,0,0,0,0,0)).2.2.1,(b1.2.1.getD ((b1.1.set t.toNat ((b1.1.getD t.toNat (0,0,false,0,0,0,0,0)).1,((b1.1.getD t.toNat (0,0,false,0,0,0,0,0)).2.1+1),(b1.1.getD t.toNat (0,0,false,0,0,0,0,0)).2.2)).getD t.toNat (0,0,false,0,0,0,0,0)).2.2.2.1.toNat (0,0,0,0,0,0)).2.2.2.1,(b1.2.1.getD ((b1.1.set t.toNat ((b1.1.getD t.toNat (0,0,false,0,0,0,0,0)).1,((b1.1.getD t.toNat (0,0,false,0,0,0,0,0)).2.1+1),(b1.1.getD t.toNat (0,0,false,0,0,0,0,0)).2.2)).getD t.toNat (0,0,false,0,0,0,0,0)).2.2.2.1.toNat (0,0,0,0,0,0)).2.2.2.2.1,((2*p_4)+2))).set ((b1.1.set t.toNat ((b1.1.getD t.toNat (0,0,false,0,0,0,0,0)).1,((b1.1.getD t.toNat (0,0,false,0,0,0,0,0)).2.1+1),(b1.1.getD t.toNat (0,0,false,0,0,0,0,0)).2.2)).getD t.toNat (0,0,false,0,0,0,0,0)).2.2.2.1.toNat (((b1.2.1.set ((b1.1.set t.toNat ((b1.1.getD t.toNat (0,0,false,0,0,0,0,0)).1,((b1.1.getD t.toNat (0,0,false,0,0,0,0,0)).2.1+1),(b1.1.getD t.toNat (0,0,false,0,0,0,0,0)).2.2)).getD t.toNat (0,0,false,0,0,0,0,0)).2.2.2.1.toNat ((b1.2.1.getD ((b1.1.set t.toNat ((b1.1.getD t.toNat (0,0,false,0,0,0,0,0)).1,((b1.1.getD t.toNat (0,0,false,0,0,0,0,0)).2.1+1),(b1.1.getD t.toNat (0,0,false,0,0,0,0,0)).2.2)).getD t.toNat (0,0,false,0,0,0,0,0)).2.2.2.1.toNat (0,0,0,0,0,0)).1,(b1.2.1.getD ((b1.1.set t.toNat ((b1.1.getD t.toNat (0,0,false,0,0,0,0,0)).1,((b1.1.getD t.toNat (0,0,false,0,0,0,0,0)).2.1+1),(b1.1.getD t.toNat (0,0,false,0,0,0,0,0)).2.2)).getD t.toNat (0,0,false,0,0,0,0,0)).2.2.2.1.toNat (0,0,0,0,0,0)).2.1,(b1.2.1.getD ((b1.1.set t.toNat ((b1.1.getD t.toNat (0,0,false,0,0,0,0,0)).1,((b1.1.getD t.toNat (0,0,false,0,0,0,0,0)).2.1+1),(b1.1.getD t.toNat (0,0,false,0,0,0,0,0)).2.2)).getD t.toNat (0,0,false,0,0,0,0,0)).2.2.2.1.toNat (0,0,0,0,0,0)).2.2.1,(b1.2.1.getD ((b1.1.set t.toNat ((b1.1.getD t.toNat (0,0,false,0,0,0,0,0)).1,((b1.1.getD t.toNat (0,0,false,0,0,0,0,0)).2.1+1),(b1.1.getD t.toNat (0,0,false,0,0,0,0,0)).2.2)).getD t.toNat (0,0,false,0,0,0,0,0)).2.2.2.1.toNat (0,0,0,0,0,0)).2.2.2.1,(b1.2.1.getD ((b1.1.set t.toNat ((b1.1.getD t.toNat (0,0,false,0,0,0,0,0)).1,((b1.1.getD t.toNat (0,0,false,0,0,0,0,0)).2.1+1),(b1.1.getD t.toNat (0,0,false,0,0,0,0,0)).2.2)).getD t.toNat (0,0,false,0,0,0,0,0)).2.2.2.1.toNat (0,0,0,0,0,0)).2.2.2.2.1,((2*p_4)+2))).getD ((b1.1.set t.toNat ((b1.1.getD t.toNat (0,0,false,0,0,0,0,0)).1,((b1.1.getD t.toNat (0,0,false,0,0,0,0,0)).2.1+1),(b1.1.getD t.toNat (0,0,false,0,0,0,0,0)).2.2)).getD t.toNat (0,0,false,0,0,0,0,0)).2.2.2.1.toNat (0,0,0,0,0,0)).1,((b1.2.1.set ((b1.1.set t.toNat ((b1.1.getD t.toNat (0,0,false,0,0,0,0,0)).1,((b1.1.getD t.toNat (0,0,false,0,0,0,0,0)).2.1+1),(b1.1.getD t.toNat (0,0,false,0,0,0,0,0)).2.2)).getD t.toNat (0,0,false,0,0,0,0,0)).2.2.2.1.toNat ((b1.2.1.getD ((b1.1.set t.toNat ((b1.1.getD t.toNat (0,0,false,0,0,0,0,0)).1,((b1.1.getD t.toNat (0,0,false,0,0,0,0,0)).2.1+1),(b1.1.getD t.toNat (0,0,false,0,0,0,0,0)).2.2)).getD t.toNat (0,0,false,0,0,0,0,0)).2.2.2.1.toNat (0,0,0,0,0,0)).1,(b1.2.1.getD ((b1.1.set t.toNat ((b1.1.getD t.toNat (0,0,false,0,0,0,0,0)).1,((b1.1.getD t.toNat (0,0,false,0,0,0,0,0)).2.1+1),(b1.1.getD t.toNat (0,0,false,0,0,0,0,0)).2.2)).getD t.toNat (0,0,false,0,0,0,0,0)).2.2.2.1.toNat (0,0,0,0,0,0)).2.1,(b1.2.1.getD ((b1.1.set t.toNat ((b1.1.getD t.toNat (0,0,false,0,0,0,0,0)).1,((b1.1.getD t.toNat (0,0,false,0,0,0,0,0)).2.1+1),(b1.1.getD t.toNat (0,0,false,0,0,0,0,0)).2.2)).getD t.toNat (0,0,false,0,0,0,0,0)).2.2.2.1.toNat (0,0,0,0,0,0)).2.2.1,(b1.2.1.getD ((b1.1.set t.toNat ((b1.1.getD t.toNat (0,0,false,0,0,0,0,0)).1,((b1.1.getD t.toNat (0,0,false,0,0,0,0,0)).2.1+1),(b1.1.getD t.toNat (0,0,false,0,0,0,0,0)).2.2)).getD t.toNat (0,0,false,0,0,0,0,0)).2.2.2.1.toNat (0,0,0,0,0,0)).2.2.2.1,(b1.2.1.getD ((b1.1.set t.toNat ((b1.1.getD t.toNat (0,0,false,0,0,0,0,0)).1,((b1.1.getD t.toNat (0,0,false,0,0,0,0,0)).2.1+1),(b1.1.getD t.toNat (0,0,false,0,0,0,0,0)).2.2)).getD t.toNat (0,0,false,0,0,0,0,0)).2.2.2.1.toNat (0,0,0,0,0,0)).2.2.2.2.1,((2*p_4)+2))).getD ((b1.1.set t.toNat ((b1.1.getD t.toNat (0,0,false,0,0,0,0,0)).1,((b1.1.getD t.toNat (0,0,false,0,0,0,0,0)).2.1+1),(b1.1.getD t.toNat (0,0,false,0,0,0,0,0)).2.2)).getD t.toNat (0,0,false,0,0,0,0,0)).2.2.2.1.toNat (0,0,0,0,0,0)).2.1,((b1.2.1.set ((b1.1.set t.toNat ((b1.1.getD t.toNat (0,0,false,0,0,0,0,0)).1,((b1.1.getD t.toNat (0,0,false,0,0,0,0,0)).2.1+1),(b1.1.getD t.toNat (0,0,false,0,0,0,0,0)).2.2)).getD t.toNat (0,0,false,0,0,0,0,0)).2.2.2.1.toNat ((b1.2.1.getD ((b1.1.set t.toNat ((b1.1.getD t.toNat (0,0,false,0,0,0,0,0)).1,((b1.1.getD t.toNat (0,0,false,0,0,0,0,0)).2.1+1),(b1.1.getD t.toNat (0,0,false,0,0,0,0,0)).2.2)).getD t.toNat (0,0,false,0,0,0,0,0)).2.2.2.1.toNat (0,0,0,0,0,0)).1,(b1.2.1.getD ((b1.1.set t.toNat ((b1.1.getD t.toNat (0,0,false,0,0,0,0,0)).1,((b1.1.getD t.toNat (0,0,false,0,0,0,0,0)).2.1+1),(b1.1.getD t.toNat (0,0,false,0,0,0,0,0)).2.2)).getD t.toNat (0,0,false,0,0,0,0,0)).2.2.2.1.toNat (0,0,0,0,0,0)).2.1,(b1.2.1.getD ((b1.1.set t.toNat ((b1.1.getD t.toNat (0,0,false,0,0,0,0,0)).1,((b1.1.getD t.toNat (0,0,false,0,0,0,0,0)).2.1+1),(b1.1.getD t.toNat (0,0,false,0,0,0,0,0)).2.2)).getD t.toNat (0,0,false,0,0,0,0,0)).2.2.2.1.toNat (0,0,0,0,0,0)).2.2.1,(b1.2.1.getD ((b1.1.set t.toNat ((b1.1.getD t.toNat (0,0,false,0,0,0,0,0)).1,((b1.1.getD t.toNat (0,0,false,0,0,0,0,0)).2.1+1),(b1.1.getD t.toNat (0,0,false,0,0,0,0,0)).2.2)).getD t.toNat (0,0,false,0,0,0,0,0)).2.2.2.1.toNat (0,0,0,0,0,0)).2.2.2.1,(b1.2.1.getD ((b1.1.set t.toNat ((b1.1.getD t.toNat (0,0,false,0,0,0,0,0)).1,((b1.1.getD t.toNat (0,0,false,0,0,0,0,0)).2.1+1),(b1.1.getD t.toNat (0,0,false,0,0,0,0,0)).2.2)).getD t.toNat (0,0,false,0,0,0,0,0)).2.2.2.1.toNat (0,0,0,0,0,0)).2.2.2.2.1,((2*p_4)+2))).getD ((b1.1.set t.toNat ((b1.1.getD t.toNat (0,0,false,0,0,0,0,0)).1,((b1.1.getD t.toNat (0,0,false,0,0,0,0,0)).2.1+1),(b1.1.getD t.toNat (0,0,false,0,0,0,0,0)).2.2)).getD t.toNat (0,0,false,0,0,0,0,0)).2.2.2.1.toNat (0,0,0,0,0,0)).2.2.1,(b7 Y2 ((b1.1.set t.toNat ((b1.1.getD t.toNat (0,0,false,0,0,0,0,0)).1,((b1.1.getD t.toNat (0,0,false,0,0,0,0,0)).2.1+1),(b1.1.getD t.toNat (0,0,false,0,0,0,0,0)).2.2)).getD t.toNat (0,0,false,0,0,0,0,0)) (4+((p.getD (b1.2.1.getD (b1.1.getD t.toNat (0,0,false,0,0,0,0,0)).2.2.2.1.toNat (0,0,0,0,0,0)).2.2.1.toNat []).getD (b1.1.getD t.toNat (0,0,false,0,0,0,0,0)).2.1.toNat (0,0,0,0)).2.1.toNat*1)),((b1.2.1.set ((b1.1.set t.toNat ((b1.1.getD t.toNat (0,0,false,0,0,0,0,0)).1,((b1.1.getD t.toNat (0,0,false,0,0,0,0,0)).2.1+1),(b1.1.getD t.toNat (0,0,false,0,0,0,0,0)).2.2)).getD t.toNat (0,0,false,0,0,0,0,0)).2.2.2.1.toNat ((b1.2.1.getD ((b1.1.set t.toNat ((b1.1.getD t.toNat (0,0,false,0,0,0,0,0)).1,((b1.1.getD t.toNat (0,0,false,0,0,0,0,0)).2.1+1),(b1.1.getD t.toNat (0,0,false,0,0,0,0,0)).2.2)).getD t.toNat (0,0,false,0,0,0,0,0)).2.2.2.1.toNat (0,0,0,0,0,0)).1,(b1.2.1.getD ((b1.1.set t.toNat ((b1.1.getD t.toNat (0,0,false,0,0,0,0,0)).1,((b1.1.getD t.toNat (0,0,false,0,0,0,0,0)).2.1+1),(b1.1.getD t.toNat (0,0,false,0,0,0,0,0)).2.2)).getD t.toNat (0,0,false,0,0,0,0,0)).2.2.2.1.toNat (0,0,0,0,0,0)).2.1,(b1.2.1.getD ((b1.1.set t.toNat ((b1.1.getD t.toNat (0,0,false,0,0,0,0,0)).1,((b1.1.getD t.toNat (0,0,false,0,0,0,0,0)).2.1+1),(b1.1.getD t.toNat (0,0,false,0,0,0,0,0)).2.2)).getD t.toNat (0,0,false,0,0,0,0,0)).2.2.2.1.toNat (0,0,0,0,0,0)).2.2.1,(b1.2.1.getD ((b1.1.set t.toNat ((b1.1.getD t.toNat (0,0,false,0,0,0,0,0)).1,((b1.1.getD t.toNat (0,0,false,0,0,0,0,0)).2.1+1),(b1.1.getD t.toNat (0,0,false,0,0,0,0,0)).2.2)).getD t.toNat (0,0,false,0,0,0,0,0)).2.2.2.1.toNat (0,0,0,0,0,0)).2.2.2.1,(b1.2.1.getD ((b1.1.set t.toNat ((b1.1.getD t.toNat (0,0,false,0,0,0,0,0)).1,((b1.1.getD t.toNat (0,0,false,0,0,0,0,0)).2.1+1),(b1.1.getD t.toNat (0,0,false,0,0,0,0,0)).2.2)).getD t.toNat (0,0,false,0,0,0,0,0)).2.2.2.1.toNat (0,0,0,0,0,0)).2.2.2.2.1,((2*p_4)+2))).getD ((b1.1.set t.toNat ((b1.1.getD t.toNat (0,0,false,0,0,0,0,0)).1,((b1.1.getD t.toNat (0,0,false,0,0,0,0,0)).2.1+1),(b1.1.getD t.toNat (0,0,false,0,0,0,0,0)).2.2)).getD t.toNat (0,0,false,0,0,0,0,0)).2.2.2.1.toNat (0,0,0,0,0,0)).2.2.2.2))),(81,.arr 3 .i b1.2.2),(1000,.box 97 [.sl (.sl Y4) p,.sl (.sl .i) p_2,.sl .i p_3,.own 1001,.ii (p_4+1),.ii p_5,.ii p_6,.ii p_7,.own 72,.own 81]),(1001,.arr 161 Y2 (b1.1.set t.toNat ((b1.1.getD t.toNat (0,0,false,0,0,0,0,0)).1,((b1.1.getD t.toNat (0,0,false,0,0,0,0,0)).2.1+1),(b1.1.getD t.toNat (0,0,false,0,0,0,0,0)).2.2)))] gt ?_
              as_aux_lemma =>
               refine AW.ops ?_
               obtain ⟨c196,h⟩:=b5.1 h
               refine zA [(0,.bp 1000 0),(4,.ap 1001 8 t.toNat 0),(5,.ii p_4),(6,.ii (b1.2.1.getD (b1.1.getD t.toNat (0,0,false,0,0,0,0,0)).2.2.2.1.toNat (0,0,0,0,0,0)).2.2.1),(7,.ii (b1.1.getD t.toNat (0,0,false,0,0,0,0,0)).2.1)] [(72,.arr 68 Y0 ((b1.2.1.set ((b1.1.set t.toNat ((b1.1.getD t.toNat (0,0,false,0,0,0,0,0)).1,((b1.1.getD t.toNat (0,0,false,0,0,0,0,0)).2.1+1),(b1.1.getD t.toNat (0,0,false,0,0,0,0,0)).2.2)).getD t.toNat (0,0,false,0,0,0,0,0)).2.2.2.1.toNat ((b1.2.1.getD ((b1.1.set t.toNat ((b1.1.getD t.toNat (0,0,false,0,0,0,0,0)).1,((b1.1.getD t.toNat (0,0,false,0,0,0,0,0)).2.1+1),(b1.1.getD t.toNat (0,0,false,0,0,0,0,0)).2.2)).getD t.toNat (0,0,false,0,0,0,0,0)).2.2.2.1.toNat (0,0,0,0,0,0)).1,(b1.2.1.getD ((b1.1.set t.toNat ((b1.1.getD t.toNat (0,0,false,0,0,0,0,0)).1,((b1.1.getD t.toNat (0,0,false,0,0,0,0,0)).2.1+1),(b1.1.getD t.toNat (0,0,false,0,0,0,0,0)).2.2)).getD t.toNat (0,0,false,0,0,0,0,0)).2.2.2.1.toNat (0,0,0,0,0,0)).2.1,(b1.2.1.getD ((b1.1.set t.toNat ((b1.1.getD t.toNat (0,0,false,0,0,0,0,0)).1,((b1.1.getD t.toNat (0,0,false,0,0,0,0,0)).2.1+1),(b1.1.getD t.toNat (0,0,false,0,0,0,0,0)).2.2)).getD t.toNat (0,0,false,0,0,0,0,0)).2.2.2.1.toNat (0,0,0,0,0,0)).2.2.1,(b1.2.1.getD ((b1.1.set t.toNat ((b1.1.getD t.toNat (0,0,false,0,0,0,0,0)).1,((b1.1.getD t.toNat (0,0,false,0,0,0,0,0)).2.1+1),(b1.1.getD t.toNat (0,0,false,0,0,0,0,0)).2.2)).getD t.toNat (0,0,false,0,0,0,0,0)).2.2.2.1.toNat (0,0,0,0,0,0)).2.2.2.1,(b1.2.1.getD ((b1.1.set t.toNat ((b1.1.getD t.toNat (0,0,false,0,0,0,0,0)).1,((b1.1.getD t.toNat (0,0,false,0,0,0,0,0)).2.1+1),(b1.1.getD t.toNat (0,0,false,0,0,0,0,0)).2.2)).getD t.toNat (0,0,false,0,0,0,0,0)).2.2.2.1.toNat (0,0,0,0,0,0)).2.2.2.2.1,((2*p_4)+2))).set ((b1.1.set t.toNat ((b1.1.getD t.toNat (0,0,false,0,0,0,0,0)).1,((b1.1.getD t.toNat (0,0,false,0,0,0,0,0)).2.1+1),(b1.1.getD t.toNat (0,0,false,0,0,0,0,0)).2.2)).getD t.toNat (0,0,false,0,0,0,0,0)).2.2.2.1.toNat (((b1.2.1.set ((b1.1.set t.toNat ((b1.1.getD t.toNat (0,0,false,0,0,0,0,0)).1,((b1.1.getD t.toNat (0,0,false,0,0,0,0,0)).2.1+1),(b1.1.getD t.toNat (0,0,false,0,0,0,0,0)).2.2)).getD t.toNat (0,0,false,0,0,0,0,0)).2.2.2.1.toNat ((b1.2.1.getD ((b1.1.set t.toNat ((b1.1.getD t.toNat (0,0,false,0,0,0,0,0)).1,((b1.1.getD t.toNat (0,0,false,0,0,0,0,0)).2.1+1),(b1.1.getD t.toNat (0,0,false,0,0,0,0,0)).2.2)).getD t.toNat (0,0,false,0,0,0,0,0)).2.2.2.1.toNat (0,0,0,0,0,0)).1,(b1.2.1.getD ((b1.1.set t.toNat ((b1.1.getD t.toNat (0,0,false,0,0,0,0,0)).1,((b1.1.getD t.toNat (0,0,false,0,0,0,0,0)).2.1+1),(b1.1.getD t.toNat (0,0,false,0,0,0,0,0)).2.2)).getD t.toNat (0,0,false,0,0,0,0,0)).2.2.2.1.toNat (0,0,0,0,0,0)).2.1,(b1.2.1.getD ((b1.1.set t.toNat ((b1.1.getD t.toNat (0,0,false,0,0,0,0,0)).1,((b1.1.getD t.toNat (0,0,false,0,0,0,0,0)).2.1+1),(b1.1.getD t.toNat (0,0,false,0,0,0,0,0)).2.2)).getD t.toNat (0,0,false,0,0,0,0,0)).2.2.2.1.toNat (0,0,0,0,0,0)).2.2.1,(b1.2.1.getD ((b1.1.set t.toNat ((b1.1.getD t.toNat (0,0,false,0,0,0,0,0)).1,((b1.1.getD t.toNat (0,0,false,0,0,0,0,0)).2.1+1),(b1.1.getD t.toNat (0,0,false,0,0,0,0,0)).2.2)).getD t.toNat (0,0,false,0,0,0,0,0)).2.2.2.1.toNat (0,0,0,0,0,0)).2.2.2.1,(b1.2.1.getD ((b1.1.set t.toNat ((b1.1.getD t.toNat (0,0,false,0,0,0,0,0)).1,((b1.1.getD t.toNat (0,0,false,0,0,0,0,0)).2.1+1),(b1.1.getD t.toNat (0,0,false,0,0,0,0,0)).2.2)).getD t.toNat (0,0,false,0,0,0,0,0)).2.2.2.1.toNat (0,0,0,0,0,0)).2.2.2.2.1,((2*p_4)+2))).getD ((b1.1.set t.toNat ((b1.1.getD t.toNat (0,0,false,0,0,0,0,0)).1,((b1.1.getD t.toNat (0,0,false,0,0,0,0,0)).2.1+1),(b1.1.getD t.toNat (0,0,false,0,0,0,0,0)).2.2)).getD t.toNat (0,0,false,0,0,0,0,0)).2.2.2.1.toNat (0,0,0,0,0,0)).1,((b1.2.1.set ((b1.1.set t.toNat ((b1.1.getD t.toNat (0,0,false,0,0,0,0,0)).1,((b1.1.getD t.toNat (0,0,false,0,0,0,0,0)).2.1+1),(b1.1.getD t.toNat (0,0,false,0,0,0,0,0)).2.2)).getD t.toNat (0,0,false,0,0,0,0,0)).2.2.2.1.toNat ((b1.2.1.getD ((b1.1.set t.toNat ((b1.1.getD t.toNat (0,0,false,0,0,0,0,0)).1,((b1.1.getD t.toNat (0,0,false,0,0,0,0,0)).2.1+1),(b1.1.getD t.toNat (0,0,false,0,0,0,0,0)).2.2)).getD t.toNat (0,0,false,0,0,0,0,0)).2.2.2.1.toNat (0,0,0,0,0,0)).1,(b1.2.1.getD ((b1.1.set t.toNat ((b1.1.getD t.toNat (0,0,false,0,0,0,0,0)).1,((b1.1.getD t.toNat (0,0,false,0,0,0,0,0)).2.1+1),(b1.1.getD t.toNat (0,0,false,0,0,0,0,0)).2.2)).getD t.toNat (0,0,false,0,0,0,0,0)).2.2.2.1.toNat (0,0,0,0,0,0)).2.1,(b1.2.1.getD ((b1.1.set t.toNat ((b1.1.getD t.toNat (0,0,false,0,0,0,0,0)).1,((b1.1.getD t.toNat (0,0,false,0,0,0,0,0)).2.1+1),(b1.1.getD t.toNat (0,0,false,0,0,0,0,0)).2.2)).getD t.toNat (0,0,false,0,0,0,0,0)).2.2.2.1.toNat (0,0,0,0,0,0)).2.2.1,(b1.2.1.getD ((b1.1.set t.toNat ((b1.1.getD t.toNat (0,0,false,0,0,0,0,0)).1,((b1.1.getD t.toNat (0,0,false,0,0,0,0,0)).2.1+1),(b1.1.getD t.toNat (0,0,false,0,0,0,0,0)).2.2)).getD t.toNat (0,0,false,0,0,0,0,0)).2.2.2.1.toNat (0,0,0,0,0,0)).2.2.2.1,(b1.2.1.getD ((b1.1.set t.toNat ((b1.1.getD t.toNat (0,0,false,0,0,0,0,0)).1,((b1.1.getD t.toNat (0,0,false,0,0,0,0,0)).2.1+1),(b1.1.getD t.toNat (0,0,false,0,0,0,0,0)).2.2)).getD t.toNat (0,0,false,0,0,0,0,0)).2.2.2.1.toNat (0,0,0,0,0,0)).2.2.2.2.1,((2*p_4)+2))).getD ((b1.1.set t.toNat ((b1.1.getD t.toNat (0,0,false,0,0,0,0,0)).1,((b1.1.getD t.toNat (0,0,false,0,0,0,0,0)).2.1+1),(b1.1.getD t.toNat (0,0,false,0,0,0,0,0)).2.2)).getD t.toNat (0,0,false,0,0,0,0,0)).2.2.2.1.toNat (0,0,0,0,0,0)).2.1,((b1.2.1.set ((b1.1.set t.toNat ((b1.1.getD t.toNat (0,0,false,0,0,0,0,0)).1,((b1.1.getD t.toNat (0,0,false,0,0,0,0,0)).2.1+1),(b1.1.getD t.toNat (0,0,false,0,0,0,0,0)).2.2)).getD t.toNat (0,0,false,0,0,0,0,0)).2.2.2.1.toNat ((b1.2.1.getD ((b1.1.set t.toNat ((b1.1.getD t.toNat (0,0,false,0,0,0,0,0)).1,((b1.1.getD t.toNat (0,0,false,0,0,0,0,0)).2.1+1),(b1.1.getD t.toNat (0,0,false,0,0,0,0,0)).2.2)).getD t.toNat (0,0,false,0,0,0,0,0)).2.2.2.1.toNat (0,0,0,0,0,0)).1,(b1.2.1.getD ((b1.1.set t.toNat ((b1.1.getD t.toNat (0,0,false,0,0,0,0,0)).1,((b1.1.getD t.toNat (0,0,false,0,0,0,0,0)).2.1+1),(b1.1.getD t.toNat (0,0,false,0,0,0,0,0)).2.2)).getD t.toNat (0,0,false,0,0,0,0,0)).2.2.2.1.toNat (0,0,0,0,0,0)).2.1,(b1.2.1.getD ((b1.1.set t.toNat ((b1.1.getD t.toNat (0,0,false,0,0,0,0,0)).1,((b1.1.getD t.toNat (0,0,false,0,0,0,0,0)).2.1+1),(b1.1.getD t.toNat (0,0,false,0,0,0,0,0)).2.2)).getD t.toNat (0,0,false,0,0,0,0,0)).2.2.2.1.toNat (0,0,0,0,0,0)).2.2.1,(b1.2.1.getD ((b1.1.set t.toNat ((b1.1.getD t.toNat (0,0,false,0,0,0,0,0)).1,((b1.1.getD t.toNat (0,0,false,0,0,0,0,0)).2.1+1),(b1.1.getD t.toNat (0,0,false,0,0,0,0,0)).2.2)).getD t.toNat (0,0,false,0,0,0,0,0)).2.2.2.1.toNat (0,0,0,0,0,0)).2.2.2.1,(b1.2.1.getD ((b1.1.set t.toNat ((b1.1.getD t.toNat (0,0,false,0,0,0,0,0)).1,((b1.1.getD t.toNat (0,0,false,0,0,0,0,0)).2.1+1),(b1.1.getD t.toNat (0,0,false,0,0,0,0,0)).2.2)).getD t.toNat (0,0,false,0,0,0,0,0)).2.2.2.1.toNat (0,0,0,0,0,0)).2.2.2.2.1,((2*p_4)+2))).getD ((b1.1.set t.toNat ((b1.1.getD t.toNat (0,0,false,0,0,0,0,0)).1,((b1.1.getD t.toNat (0,0,false,0,0,0,0,0)).2.1+1),(b1.1.getD t.toNat (0,0,false,0,0,0,0,0)).2.2)).getD t.toNat (0,0,false,0,0,0,0,0)).2.2.2.1.toNat (0,0,0,0,0,0)).2.2.1,(b7 Y2 ((b1.1.set t.toNat ((b1.1.getD t.toNat (0,0,false,0,0,0,0,0)).1,((b1.1.getD t.toNat (0,0,false,0,0,0,0,0)).2.1+1),(b1.1.getD t.toNat (0,0,false,0,0,0,0,0)).2.2)).getD t.toNat (0,0,false,0,0,0,0,0)) (4+((p.getD (b1.2.1.getD (b1.1.getD t.toNat (0,0,false,0,0,0,0,0)).2.2.2.1.toNat (0,0,0,0,0,0)).2.2.1.toNat []).getD (b1.1.getD t.toNat (0,0,false,0,0,0,0,0)).2.1.toNat (0,0,0,0)).2.1.toNat*1)),((b1.2.1.set ((b1.1.set t.toNat ((b1.1.getD t.toNat (0,0,false,0,0,0,0,0)).1,((b1.1.getD t.toNat (0,0,false,0,0,0,0,0)).2.1+1),(b1.1.getD t.toNat (0,0,false,0,0,0,0,0)).2.2)).getD t.toNat (0,0,false,0,0,0,0,0)).2.2.2.1.toNat ((b1.2.1.getD ((b1.1.set t.toNat ((b1.1.getD t.toNat (0,0,false,0,0,0,0,0)).1,((b1.1.getD t.toNat (0,0,false,0,0,0,0,0)).2.1+1),(b1.1.getD t.toNat (0,0,false,0,0,0,0,0)).2.2)).getD t.toNat (0,0,false,0,0,0,0,0)).2.2.2.1.toNat (0,0,0,0,0,0)).1,(b1.2.1.getD ((b1.1.set t.toNat ((b1.1.getD t.toNat (0,0,false,0,0,0,0,0)).1,((b1.1.getD t.toNat (0,0,false,0,0,0,0,0)).2.1+1),(b1.1.getD t.toNat (0,0,false,0,0,0,0,0)).2.2)).getD t.toNat (0,0,false,0,0,0,0,0)).2.2.2.1.toNat (0,0,0,0,0,0)).2.1,(b1.2.1.getD ((b1.1.set t.toNat ((b1.1.getD t.toNat (0,0,false,0,0,0,0,0)).1,((b1.1.getD t.toNat (0,0,false,0,0,0,0,0)).2.1+1),(b1.1.getD t.toNat (0,0,false,0,0,0,0,0)).2.2)).getD t.toNat (0,0,false,0,0,0,0,0)).2.2.2.1.toNat (0,0,0,0,0,0)).2.2.1,(b1.2.1.getD ((b1.1.set t.toNat ((b1.1.getD t.toNat (0,0,false,0,0,0,0,0)).1,((b1.1.getD t.toNat (0,0,false,0,0,0,0,0)).2.1+1),(b1.1.getD t.toNat (0,0,false,0,0,0,0,0)).2.2)).getD t.toNat (0,0,false,0,0,0,0,0)).2.2.2.1.toNat (0,0,0,0,0,0)).2.2.2.1,(b1.2.1.getD ((b1.1.set t.toNat ((b1.1.getD t.toNat (0,0,false,0,0,0,0,0)).1,((b1.1.getD t.toNat (0,0,false,0,0,0,0,0)).2.1+1),(b1.1.getD t.toNat (0,0,false,0,0,0,0,0)).2.2)).getD t.toNat (0,0,false,0,0,0,0,0)).2.2.2.1.toNat (0,0,0,0,0,0)).2.2.2.2.1,((2*p_4)+2))).getD ((b1.1.set t.toNat ((b1.1.getD t.toNat (0,0,false,0,0,0,0,0)).1,((b1.1.getD t.toNat (0,0,false,0,0,0,0,0)).2.1+1),(b1.1.getD t.toNat (0,0,false,0,0,0,0,0)).2.2)).getD t.toNat (0,0,false,0,0,0,0,0)).2.2.2.1.toNat (0,0,0,0,0,0)).2.2.2.2))),(81,.arr 3 .i b1.2.2),(1000,.box 97 [.sl (.sl Y4) p,.sl (.sl .i) p_2,.sl .i p_3,.own 1001,.ii (p_4+1),.ii p_5,.ii p_6,.ii p_7,.own 72,.own 81]),(1001,.arr 161 Y2 ((b1.1.set t.toNat ((b1.1.getD t.toNat (0,0,false,0,0,0,0,0)).1,((b1.1.getD t.toNat (0,0,false,0,0,0,0,0)).2.1+1),(b1.1.getD t.toNat (0,0,false,0,0,0,0,0)).2.2)).set t.toNat (((b1.1.set t.toNat ((b1.1.getD t.toNat (0,0,false,0,0,0,0,0)).1,((b1.1.getD t.toNat (0,0,false,0,0,0,0,0)).2.1+1),(b1.1.getD t.toNat (0,0,false,0,0,0,0,0)).2.2)).getD t.toNat (0,0,false,0,0,0,0,0)).1,((b1.1.set t.toNat ((b1.1.getD t.toNat (0,0,false,0,0,0,0,0)).1,((b1.1.getD t.toNat (0,0,false,0,0,0,0,0)).2.1+1),(b1.1.getD t.toNat (0,0,false,0,0,0,0,0)).2.2)).getD t.toNat (0,0,false,0,0,0,0,0)).2.1,false,((b1.1.set t.toNat ((b1.1.getD t.toNat (0,0,false,0,0,0,0,0)).1,((b1.1.getD t.toNat (0,0,false,0,0,0,0,0)).2.1+1),(b1.1.getD t.toNat (0,0,false,0,0,0,0,0)).2.2)).getD t.toNat (0,0,false,0,0,0,0,0)).2.2.2)))] ?_ (h:=by (simp only [go_sem,hb28,hb55,hb72,hb134,hb142,hb164,hb174,c191])<;>(with_reducible and_intros)<;>first|assumption|rfl|omega|(unfold maxLen; omega))
               refine i6 ?_
               refine f7 ?_
               have hj:=hk_linealref08_Play_Step_2_k2 _ h
               exact AW.weaken (zL [] [] []) hj
      refine zm ?_
      refine f7 ?_
      have hj:=hk_linealref08_Play_Step_2_k2 _ h
      exact AW.weaken (zL [] [] []) hj
 refine AW.seq ?_
 refine zo ?_
 refine zB [(0,.bp 1000 0),(1,.ii t),(4,.ap 1001 8 t.toNat 0),(5,.ii p_4),(32,.bool (!(p_8.getD t.toNat (0,0,false,0,0,0,0,0)).2.2.1))] [(1000,.box 97 [.sl (.sl Y4) p,.sl (.sl .i) p_2,.sl .i p_3,.own 1001,.ii (p_4+1),.ii p_5,.ii p_6,.ii p_7,.own 1002,.own 1003]),(1001,.arr 161 Y2 p_8),(1002,.arr 68 Y0 p_9),(1003,.arr 3 .i p_10)] ?_
 refine zQ h (fun hb197 h=>?_) (fun hb197 h=>?_)
 ·refine AW.seq ?_
  refine AW.draw m8 l6 [(14,[1001])] [] (by decide) (n6 (by kernel_rfl)) ?_
  as_aux_lemma =>
   obtain ⟨c199,h⟩:=b5.1 h
   refine b9 6 (fun K' hK198=>?_)
   try dsimp only [y1,y2,y3,y4]
   simp only [go_sem,hb197]
   repeat with_reducible refine zN ?_
   refine hK198 _ ?_
   as_aux_lemma =>
    refine b9 6 (fun K' hK200=>?_)
    try dsimp only [y1,y2,y3,y4]
    simp only [go_sem,hb197]
    repeat with_reducible refine zN ?_
    refine hK200 _ ?_
    as_aux_lemma =>
     refine b9 3 (fun K' hK201=>?_)
     try dsimp only [y1,y2,y3,y4]
     simp only [go_sem,hb197]
     repeat with_reducible refine zN ?_
     refine hK201 _ ?_
     refine g6 ?_
     refine f7 ?_
     refine zV [(0,.bp 1000 0),(1,.ii t),(4,.ap 1001 8 t.toNat 0),(5,.ii p_4)] [(1000,.box 97 [.sl (.sl Y4) p,.sl (.sl .i) p_2,.sl .i p_3,.own 1001,.ii (p_4+1),.ii p_5,.ii p_6,.ii p_7,.own 1002,.own 1003]),(1001,.arr 161 Y2 (p_8.set t.toNat (((p_8.getD t.toNat (0,0,false,0,0,0,0,0)).1+1),0,true,(p_9.length:Int),0,1,0,0))),(1002,.arr 68 Y0 p_9),(1003,.arr 3 .i p_10)] gt ?_
     as_aux_lemma =>
      refine AW.seq ?_
      refine AW.draw m8 l6 [(24,[71]),(25,[72,1002]),(28,[1000])] [(0,[1000]),(1,[1000]),(2,[1000,1001,1002,1003,999999]),(3,[1000,1001,1002,1003]),(4,[1000,1001,1002,1003,1000001001,1000001002,1000001003]),(100028,[])] (by decide) (n6 (by kernel_rfl)) ?_
      as_aux_lemma =>
       refine b9 6 (fun K' hK202=>?_)
       try dsimp only [y1,y2,y3,y4]
       simp only [go_sem,hb197]
       repeat with_reducible refine zN ?_
       refine hK202 _ ?_
       as_aux_lemma =>
        obtain ⟨c204,h⟩:=b5.1 h
        obtain ⟨c205,h⟩:=b5.1 h
        refine b9 6 (fun K' hK203=>?_)
        try dsimp only [y1,y2,y3,y4]
        simp only [go_sem,hb197]
        repeat with_reducible refine zN ?_
        refine hK203 _ ?_
        as_aux_lemma =>
         obtain ⟨c207,h⟩:=b5.1 h
         refine b9 6 (fun K' hK206=>?_)
         try dsimp only [y1,y2,y3,y4]
         simp only [go_sem,hb197]
         repeat with_reducible refine zN ?_
         refine hK206 _ ?_
         as_aux_lemma =>
          obtain ⟨c209,h⟩:=b5.1 h
          obtain ⟨c210,h⟩:=b5.1 h
          obtain ⟨c211,h⟩:=b5.1 h
          obtain ⟨c212,h⟩:=b5.1 h
          refine b9 6 (fun K' hK208=>?_)
          try dsimp only [y1,y2,y3,y4]
          simp only [go_sem,hb197]
          repeat with_reducible refine zN ?_
          refine hK208 _ ?_
          as_aux_lemma =>
           obtain ⟨c214,h⟩:=b5.1 h
           refine b9 5 (fun K' hK213=>?_)
           try dsimp only [y1,y2,y3,y4]
           simp only [go_sem,hb197]
           repeat with_reducible refine zN ?_
           refine hK213 _ ?_
           refine g6 ?_
           refine f7 ?_
           refine zV [(0,.bp 1000 0),(4,.ap 1001 8 t.toNat 0),(5,.ii p_4)] [(72,.arr 68 Y0 (p_9++[(t,0,((p_2.getD t.toNat []).getD (((p_8.set t.toNat (((p_8.getD t.toNat (0,0,false,0,0,0,0,0)).1+1),0,true,(p_9.length:Int),0,1,0,0)).getD t.toNat (0,0,false,0,0,0,0,0)).1 - 1).toNat 0),0,((2*p_4)+1),0)])),(1000,.box 97 [.sl (.sl Y4) p,.sl (.sl .i) p_2,.sl .i p_3,.own 1001,.ii (p_4+1),.ii p_5,.ii p_6,.ii p_7,.own 72,.own 1003]),(1001,.arr 161 Y2 (p_8.set t.toNat (((p_8.getD t.toNat (0,0,false,0,0,0,0,0)).1+1),0,true,(p_9.length:Int),0,1,0,0))),(1003,.arr 3 .i p_10)] gt ?_
           as_aux_lemma =>
            refine AW.ops ?_
            refine zS 5 [(0,.bp 1000 0),(4,.ap 1001 8 t.toNat 0),(5,.ii p_4),(75,.bp 1000 0),(79,.own 1003)] [(72,.arr 68 Y0 (p_9++[(t,0,((p_2.getD t.toNat []).getD (((p_8.set t.toNat (((p_8.getD t.toNat (0,0,false,0,0,0,0,0)).1+1),0,true,(p_9.length:Int),0,1,0,0)).getD t.toNat (0,0,false,0,0,0,0,0)).1 - 1).toNat 0),0,((2*p_4)+1),0)])),(1000,.box 97 [.sl (.sl Y4) p,.sl (.sl .i) p_2,.sl .i p_3,.own 1001,.ii (p_4+1),.ii p_5,.ii p_6,.ii p_7,.own 72,.own 1003]),(1001,.arr 161 Y2 (p_8.set t.toNat (((p_8.getD t.toNat (0,0,false,0,0,0,0,0)).1+1),0,true,(p_9.length:Int),0,1,0,0))),(1003,.arr 3 .i p_10)] ?_
            obtain ⟨c215,h⟩:=b5.1 h
            refine zB [(0,.bp 1000 0),(4,.ap 1001 8 t.toNat 0),(5,.ii p_4)] [(72,.arr 68 Y0 (p_9++[(t,0,((p_2.getD t.toNat []).getD (((p_8.set t.toNat (((p_8.getD t.toNat (0,0,false,0,0,0,0,0)).1+1),0,true,(p_9.length:Int),0,1,0,0)).getD t.toNat (0,0,false,0,0,0,0,0)).1 - 1).toNat 0),0,((2*p_4)+1),0)])),(81,.arr 3 .i (p_10++[(-1)])),(1000,.box 97 [.sl (.sl Y4) p,.sl (.sl .i) p_2,.sl .i p_3,.own 1001,.ii (p_4+1),.ii p_5,.ii p_6,.ii p_7,.own 72,.own 81]),(1001,.arr 161 Y2 (p_8.set t.toNat (((p_8.getD t.toNat (0,0,false,0,0,0,0,0)).1+1),0,true,(p_9.length:Int),0,1,0,0)))] ?_
            have hj:=hk_linealref08_Play_Step_2_k1 _ h
            exact AW.weaken (zL [] [] []) hj
 refine zk ?_
 have hj:=hk_linealref08_Play_Step_2_k1 _ h
 exact AW.weaken (zL [] [] [(72,1002),(81,1003)]) hj
end Go.Proofs.Ytenchhmcjmjlbaa
