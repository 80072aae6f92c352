import Derived.Test.YtenchhmcjmjlbaaCkp
import Derived.Test.YtenchhmcjmjlbaaShk
import Derived.Test.YtenchhmcjmjlbaaAvd
import Derived.Test.YtenchhmcjmjlbaaCfc12
import Derived.Test.YtenchhmcjmjlbaaCfc6
import Derived.Test.YtenchhmcjmjlbaaCfc7
namespace Go.Proofs.Ytenchhmcjmjlbaa
open Go.RowKit
set_option linter.unusedSimpArgs false
set_option linter.unusedVariables false
set_option linter.constructorNameAsVariable false
set_option maxRecDepth 100000
set_option maxHeartbeats 40000000
theorem a13 (s:Int×Int×(List (List Int))×(List (List Int))) (c:List (List (Int×Int×Int×Int))) (word:List Int) {r:Bool×Int} (h:F2 s c word=some r):HC Try.prog 34 [] [.agg [.ii s.1,.ii s.2.1,.sl (.sl .i) s.2.2.1,.sl (.sl .i) s.2.2.2],.sl (.sl Y4) c,.sl .i word] [] (.tup [.bool r.1,.ii r.2]):=by
 unfold F2 at h
 refine zH Try.func34 [.tmp 6,.tmp 7] 84 ?_
 refine zo ?_
 refine zB [(1,.sl (.sl Y4) c),(2,.sl .i word),(3,.bp 3 0)] [(3,.box 24 [.ii s.1,.ii s.2.1,.sl (.sl .i) s.2.2.1,.sl (.sl .i) s.2.2.2])] ?_
 refine AW.seq ?_
 refine zo ?_
 refine zS 1 [(1,.sl (.sl Y4) c),(2,.sl .i word),(3,.bp 3 0),(13,.sl (.sl Y4) c)] [(3,.box 24 [.ii s.1,.ii s.2.1,.sl (.sl .i) s.2.2.1,.sl (.sl .i) s.2.2.2])] ?_
 obtain ⟨v0,hv1,h⟩:=zw h
 refine zC [] [] (Z4 c hv1) [(1,.sl (.sl Y4) c),(2,.sl .i word),(3,.bp 3 0),(14,.bool v0)] [(3,.box 24 [.ii s.1,.ii s.2.1,.sl (.sl .i) s.2.2.1,.sl (.sl .i) s.2.2.2])] ?_
 refine zB [(1,.sl (.sl Y4) c),(2,.sl .i word),(3,.bp 3 0),(15,.bool (!v0))] [(3,.box 24 [.ii s.1,.ii s.2.1,.sl (.sl .i) s.2.2.1,.sl (.sl .i) s.2.2.2])] ?_
 refine zQ h (fun hb2 h=>?_) (fun hb2 h=>?_)
 ·refine zo ?_
  refine zB [(6,.bool false),(7,.ii 80)] [] ?_
  refine zr ?_
  obtain rfl:=zj h
  exact zR [] [] []
 refine zk ?_
 refine AW.seq ?_
 refine zo ?_
 refine zS 2 [(1,.sl (.sl Y4) c),(2,.sl .i word),(3,.bp 3 0),(16,.agg [.ii s.1,.ii s.2.1,.sl (.sl .i) s.2.2.1,.sl (.sl .i) s.2.2.2]),(17,.sl (.sl Y4) c)] [(3,.box 24 [.ii s.1,.ii s.2.1,.sl (.sl .i) s.2.2.1,.sl (.sl .i) s.2.2.2])] ?_
 obtain ⟨v0_2,hv3,h⟩:=zw h
 refine zC [] [] (a2o s c hv3) [(1,.sl (.sl Y4) c),(2,.sl .i word),(3,.bp 3 0),(18,.bool v0_2)] [(3,.box 24 [.ii s.1,.ii s.2.1,.sl (.sl .i) s.2.2.1,.sl (.sl .i) s.2.2.2])] ?_
 refine zB [(1,.sl (.sl Y4) c),(2,.sl .i word),(3,.bp 3 0),(19,.bool (!v0_2))] [(3,.box 24 [.ii s.1,.ii s.2.1,.sl (.sl .i) s.2.2.1,.sl (.sl .i) s.2.2.2])] ?_
 refine zQ h (fun hb4 h=>?_) (fun hb4 h=>?_)
 ·refine zo ?_
  refine zB [(6,.bool false),(7,.ii 10)] [] ?_
  refine zr ?_
  obtain rfl:=zj h
  exact zR [] [] []
 refine zk ?_
 refine AW.seq ?_
 refine zo ?_
 refine zS 3 [(1,.sl (.sl Y4) c),(2,.sl .i word),(3,.bp 3 0),(20,.sl (.sl Y4) c),(22,.own 22)] [(3,.box 24 [.ii s.1,.ii s.2.1,.sl (.sl .i) s.2.2.1,.sl (.sl .i) s.2.2.2]),(22,.arr 28 (.sl .i) [word])] ?_
 obtain ⟨v0_3,hv5,h⟩:=zw h
 refine zC [22] [] (a2F c [word] hv5) [(1,.sl (.sl Y4) c),(2,.sl .i word),(3,.bp 3 0),(23,.bool v0_3)] [(3,.box 24 [.ii s.1,.ii s.2.1,.sl (.sl .i) s.2.2.1,.sl (.sl .i) s.2.2.2])] ?_
 refine zB [(1,.sl (.sl Y4) c),(2,.sl .i word),(3,.bp 3 0),(24,.bool (!v0_3))] [(3,.box 24 [.ii s.1,.ii s.2.1,.sl (.sl .i) s.2.2.1,.sl (.sl .i) s.2.2.2])] ?_
 refine zQ h (fun hb6 h=>?_) (fun hb6 h=>?_)
 ·refine zo ?_
  refine zB [(6,.bool false),(7,.ii 2)] [] ?_
  refine zr ?_
  obtain rfl:=zj h
  exact zR [] [] []
 refine zk ?_
 refine zo ?_
 refine zS 3 [(3,.bp 3 0),(25,.sl (.sl Y4) c),(27,.own 27)] [(3,.box 24 [.ii s.1,.ii s.2.1,.sl (.sl .i) s.2.2.1,.sl (.sl .i) s.2.2.2]),(27,.arr 28 (.sl .i) [word])] ?_
 obtain ⟨v0_4,hv7,h⟩:=zw h
 refine zC [27] [] (a2G c [word] [] hv7) [(3,.bp 3 0),(28,.bp 38000 0)] [(3,.box 24 [.ii s.1,.ii s.2.1,.sl (.sl .i) s.2.2.1,.sl (.sl .i) s.2.2.2]),(38000,.box 97 [.sl (.sl Y4) c,.sl (.sl .i) [word],.sl .i [],.own 38001,.ii 0,.ii 0,.ii 0,.ii 0,.cv (.slice none 0 0),.cv (.slice none 0 0)]),(38001,.arr 161 Y2 (List.replicate 1 ((0,0,false,0,0,0,0,0):Int×Int×Bool×Int×Int×Int×Int×Int)))] ?_
 refine zB [(3,.bp 3 0),(8,.bp 38000 0)] [(3,.box 24 [.ii s.1,.ii s.2.1,.sl (.sl .i) s.2.2.1,.sl (.sl .i) s.2.2.2]),(38000,.box 97 [.sl (.sl Y4) c,.sl (.sl .i) [word],.sl .i [],.own 38001,.ii 0,.ii 0,.ii 0,.ii 0,.cv (.slice none 0 0),.cv (.slice none 0 0)]),(38001,.arr 161 Y2 (List.replicate 1 ((0,0,false,0,0,0,0,0):Int×Int×Bool×Int×Int×Int×Int×Int)))] ?_
 refine AW.have1 (fun b1:(List (Int×Int×Bool×Int×Int×Int×Int×Int))×Int×Int×Int×Int×ZH×(List Int)=>F8 s c word b1=some r) (fun b1=>⟨fr [(3,.bp 3 0),(8,.bp 38000 0)],b8 [(3,.box 24 [.ii s.1,.ii s.2.1,.sl (.sl .i) s.2.2.1,.sl (.sl .i) s.2.2.2]),(800,.arr 68 Y0 b1.2.2.2.2.2.1),(801,.arr 3 .i b1.2.2.2.2.2.2),(38000,.box 97 [.sl (.sl Y4) c,.sl (.sl .i) [word],.sl .i [],.own 38001,.ii b1.2.1,.ii b1.2.2.1,.ii b1.2.2.2.1,.ii b1.2.2.2.2.1,.own 800,.own 801]),(38001,.arr 161 Y2 b1.1)],gt⟩) (fun b1 h=>?_) (fun hk_linealref08_Follows_k1=>?_)
 ·as_aux_lemma =>
   unfold F8 at h
   refine zo ?_
   refine zB [(3,.bp 3 0),(8,.bp 38000 0),(10,.ii 0)] [(3,.box 24 [.ii s.1,.ii s.2.1,.sl (.sl .i) s.2.2.1,.sl (.sl .i) s.2.2.2]),(800,.arr 68 Y0 b1.2.2.2.2.2.1),(801,.arr 3 .i b1.2.2.2.2.2.2),(38000,.box 97 [.sl (.sl Y4) c,.sl (.sl .i) [word],.sl .i [],.own 38001,.ii b1.2.1,.ii b1.2.2.1,.ii b1.2.2.2.1,.ii b1.2.2.2.2.1,.own 800,.own 801]),(38001,.arr 161 Y2 b1.1)] ?_
   refine AW.have1 (fun _:Unit=>F7 c word b1=some r) (fun _=>⟨fr [(8,.bp 38000 0)],b8 [(800,.arr 68 Y0 b1.2.2.2.2.2.1),(801,.arr 3 .i b1.2.2.2.2.2.2),(38000,.box 97 [.sl (.sl Y4) c,.sl (.sl .i) [word],.sl .i [],.own 38001,.ii b1.2.1,.ii b1.2.2.1,.ii b1.2.2.2.1,.ii b1.2.2.2.2.1,.own 800,.own 801]),(38001,.arr 161 Y2 b1.1)],gt⟩) (fun _ h=>?_) (fun hk_linealref08_Follows_k2=>?_)
   ·as_aux_lemma =>
     unfold F7 at h
     refine zo ?_
     refine zS 1 [(82,.bp 38000 0)] [(800,.arr 68 Y0 b1.2.2.2.2.2.1),(801,.arr 3 .i b1.2.2.2.2.2.2),(38000,.box 97 [.sl (.sl Y4) c,.sl (.sl .i) [word],.sl .i [],.own 38001,.ii b1.2.1,.ii b1.2.2.1,.ii b1.2.2.2.1,.ii b1.2.2.2.2.1,.own 800,.own 801]),(38001,.arr 161 Y2 b1.1)] ?_
     obtain ⟨v0_7,hv8,h⟩:=zw h
     refine zC [] [(1000,38000),(1001,38001),(1002,800),(1003,801)] (Q2 c [word] [] b1.2.1 b1.2.2.1 b1.2.2.2.1 b1.2.2.2.2.1 b1.1 b1.2.2.2.2.2.1 b1.2.2.2.2.2.2 hv8) [(83,.bool v0_7)] [] ?_
     refine zB [(6,.bool v0_7),(7,.ii 0)] [] ?_
     refine AW.ret ?_
     obtain rfl:=zj h
     exact zR [] [] []
   refine AW.seq ?_
   refine zo ?_
   refine zB [(3,.bp 3 0),(8,.bp 38000 0),(10,.ii 0),(11,.ii 0)] [(3,.box 24 [.ii s.1,.ii s.2.1,.sl (.sl .i) s.2.2.1,.sl (.sl .i) s.2.2.2]),(800,.arr 68 Y0 b1.2.2.2.2.2.1),(801,.arr 3 .i b1.2.2.2.2.2.2),(38000,.box 97 [.sl (.sl Y4) c,.sl (.sl .i) [word],.sl .i [],.own 38001,.ii b1.2.1,.ii b1.2.2.1,.ii b1.2.2.2.1,.ii b1.2.2.2.2.1,.own 800,.own 801]),(38001,.arr 161 Y2 b1.1)] ?_
   refine AW.block ?_
   obtain ⟨rv13,hw9,ho10⟩:=zw h
   refine AW.loopO (m6 s b1) (fun st2=>⟨fr [(3,.bp 3 0),(8,.bp 38000 0),(10,.ii st2.1),(11,.ii st2.2)],b8 [(3,.box 24 [.ii s.1,.ii s.2.1,.sl (.sl .i) s.2.2.1,.sl (.sl .i) s.2.2.2]),(800,.arr 68 Y0 b1.2.2.2.2.2.1),(801,.arr 3 .i b1.2.2.2.2.2.2),(38000,.box 97 [.sl (.sl Y4) c,.sl (.sl .i) [word],.sl .i [],.own 38001,.ii b1.2.1,.ii b1.2.2.1,.ii b1.2.2.2.1,.ii b1.2.2.2.2.1,.own 800,.own 801]),(38001,.arr 161 Y2 b1.1)],gt⟩) (0,0) hw9 (zL [] [] []) ?_
   as_aux_lemma =>
    intro st2 x12 h hd11
    unfold m6 at h
    refine AW.seq ?_
    refine zo ?_
    refine zS 5 [(3,.bp 3 0),(8,.bp 38000 0),(10,.ii st2.1),(11,.ii st2.2),(40,.ii st2.2),(44,.own 800)] [(3,.box 24 [.ii s.1,.ii s.2.1,.sl (.sl .i) s.2.2.1,.sl (.sl .i) s.2.2.2]),(800,.arr 68 Y0 b1.2.2.2.2.2.1),(801,.arr 3 .i b1.2.2.2.2.2.2),(38000,.box 97 [.sl (.sl Y4) c,.sl (.sl .i) [word],.sl .i [],.own 38001,.ii b1.2.1,.ii b1.2.2.1,.ii b1.2.2.2.1,.ii b1.2.2.2.2.1,.own 800,.own 801]),(38001,.arr 161 Y2 b1.1)] ?_
    refine zB [(3,.bp 3 0),(8,.bp 38000 0),(10,.ii st2.1),(11,.ii st2.2),(46,.bool (decide (st2.2<(b1.2.2.2.2.2.1.length:Int))))] [(3,.box 24 [.ii s.1,.ii s.2.1,.sl (.sl .i) s.2.2.1,.sl (.sl .i) s.2.2.2]),(800,.arr 68 Y0 b1.2.2.2.2.2.1),(801,.arr 3 .i b1.2.2.2.2.2.2),(38000,.box 97 [.sl (.sl Y4) c,.sl (.sl .i) [word],.sl .i [],.own 38001,.ii b1.2.1,.ii b1.2.2.1,.ii b1.2.2.2.1,.ii b1.2.2.2.2.1,.own 800,.own 801]),(38001,.arr 161 Y2 b1.1)] ?_
    refine zQ h (fun hb14 h=>?_) (fun hb14 h=>?_)
    ·refine zk ?_
     refine AW.seq ?_
     refine AW.block ?_
     refine zo ?_
     refine zS 5 [(3,.bp 3 0),(8,.bp 38000 0),(10,.ii st2.1),(11,.ii st2.2),(52,.own 800),(53,.ii st2.2)] [(3,.box 24 [.ii s.1,.ii s.2.1,.sl (.sl .i) s.2.2.1,.sl (.sl .i) s.2.2.2]),(800,.arr 68 Y0 b1.2.2.2.2.2.1),(801,.arr 3 .i b1.2.2.2.2.2.2),(38000,.box 97 [.sl (.sl Y4) c,.sl (.sl .i) [word],.sl .i [],.own 38001,.ii b1.2.1,.ii b1.2.2.1,.ii b1.2.2.2.1,.ii b1.2.2.2.2.1,.own 800,.own 801]),(38001,.arr 161 Y2 b1.1)] ?_
     obtain ⟨c15,h⟩:=b5.1 h
     obtain ⟨c16,h⟩:=b5.1 h
     obtain ⟨c17,h⟩:=b5.1 h
     refine zB [(3,.bp 3 0),(8,.bp 38000 0),(10,.ii st2.1),(11,.ii st2.2),(12,.bp 12 0)] [(3,.box 24 [.ii s.1,.ii s.2.1,.sl (.sl .i) s.2.2.1,.sl (.sl .i) s.2.2.2]),(12,.box 68 [.ii (b1.2.2.2.2.2.1.getD st2.2.toNat (0,0,0,0,0,0)).1,.ii (b1.2.2.2.2.2.1.getD st2.2.toNat (0,0,0,0,0,0)).2.1,.ii (b1.2.2.2.2.2.1.getD st2.2.toNat (0,0,0,0,0,0)).2.2.1,.ii (b1.2.2.2.2.2.1.getD st2.2.toNat (0,0,0,0,0,0)).2.2.2.1,.ii (b1.2.2.2.2.2.1.getD st2.2.toNat (0,0,0,0,0,0)).2.2.2.2.1,.ii (b1.2.2.2.2.2.1.getD st2.2.toNat (0,0,0,0,0,0)).2.2.2.2.2]),(800,.arr 68 Y0 b1.2.2.2.2.2.1),(801,.arr 3 .i b1.2.2.2.2.2.2),(38000,.box 97 [.sl (.sl Y4) c,.sl (.sl .i) [word],.sl .i [],.own 38001,.ii b1.2.1,.ii b1.2.2.1,.ii b1.2.2.2.1,.ii b1.2.2.2.2.1,.own 800,.own 801]),(38001,.arr 161 Y2 b1.1)] ?_
     refine AW.seq ?_
     refine AW.seq ?_
     refine AW.draw m8 l6 [] [] (by decide) (n6 (by kernel_rfl)) ?_
     as_aux_lemma =>
      refine b9 4 (fun K' hK18=>?_)
      try dsimp only [y1,y2,y3,y4]
      simp only [go_sem,hb2,hb4,hb6,hb14]
      repeat with_reducible refine zN ?_
      refine hK18 _ ?_
      as_aux_lemma =>
       rcases zI h with ⟨hb19,h⟩|⟨hb19,h⟩
       ·simp only [hb19]
        as_aux_lemma =>
         refine b9 4 (fun K' hK20=>?_)
         try dsimp only [y1,y2,y3,y4]
         simp only [go_sem,hb2,hb4,hb6,hb14,hb19]
         repeat with_reducible refine zN ?_
         refine hK20 _ ?_
         as_aux_lemma =>
          refine b9 4 (fun K' hK21=>?_)
          try dsimp only [y1,y2,y3,y4]
          simp only [go_sem,hb2,hb4,hb6,hb14,hb19]
          repeat with_reducible refine zN ?_
          refine hK21 _ ?_
          as_aux_lemma =>
           refine b9 4 (fun K' hK22=>?_)
           try dsimp only [y1,y2,y3,y4]
           simp only [go_sem,hb2,hb4,hb6,hb14,hb19]
           repeat with_reducible refine zN ?_
           refine hK22 _ ?_
           as_aux_lemma =>
            refine b9 1 (fun K' hK23=>?_)
            try dsimp only [y1,y2,y3,y4]
            simp only [go_sem,hb2,hb4,hb6,hb14,hb19]
            repeat with_reducible refine zN ?_
            refine hK23 _ ?_
            refine g6 ?_
            refine f7 ?_
            refine zV [(3,.bp 3 0),(8,.bp 38000 0),(10,.ii st2.1),(11,.ii st2.2),(12,.bp 12 0),(72,.bool true)] [(3,.box 24 [.ii s.1,.ii s.2.1,.sl (.sl .i) s.2.2.1,.sl (.sl .i) s.2.2.2]),(12,.box 68 [.ii (b1.2.2.2.2.2.1.getD st2.2.toNat (0,0,0,0,0,0)).1,.ii (b1.2.2.2.2.2.1.getD st2.2.toNat (0,0,0,0,0,0)).2.1,.ii (b1.2.2.2.2.2.1.getD st2.2.toNat (0,0,0,0,0,0)).2.2.1,.ii (b1.2.2.2.2.2.1.getD st2.2.toNat (0,0,0,0,0,0)).2.2.2.1,.ii (b1.2.2.2.2.2.1.getD st2.2.toNat (0,0,0,0,0,0)).2.2.2.2.1,.ii (b1.2.2.2.2.2.1.getD st2.2.toNat (0,0,0,0,0,0)).2.2.2.2.2]),(800,.arr 68 Y0 b1.2.2.2.2.2.1),(801,.arr 3 .i b1.2.2.2.2.2.2),(38000,.box 97 [.sl (.sl Y4) c,.sl (.sl .i) [word],.sl .i [],.own 38001,.ii b1.2.1,.ii b1.2.2.1,.ii b1.2.2.2.1,.ii b1.2.2.2.2.1,.own 800,.own 801]),(38001,.arr 161 Y2 b1.1)] gt ?_
            as_aux_lemma =>
             refine AW.cond (b:=true) rfl (fun _=>?_) (fun hb24=>by cases hb24)
             refine zo ?_
             refine zB [(6,.bool false),(7,.ii 0)] [] ?_
             refine zr ?_
             refine d7 ?_
             refine d6 ?_
             obtain rfl:=zj h
             try rw [← hd11 _ rfl] at ho10
             have h:=ho10
             try simp only at h
             refine d6 ?_
             refine d7 ?_
             refine d6 ?_
             obtain rfl:=zj h
             exact zR [] [] []
       simp only [hb19]
       as_aux_lemma =>
        obtain ⟨c26,h⟩:=b5.1 h
        obtain ⟨c27,h⟩:=b5.1 h
        refine b9 6 (fun K' hK25=>?_)
        try dsimp only [y1,y2,y3,y4]
        simp only [go_sem,hb2,hb4,hb6,hb14,hb19]
        repeat with_reducible refine zN ?_
        refine hK25 _ ?_
        as_aux_lemma =>
         obtain ⟨c29,h⟩:=b5.1 h
         obtain ⟨c30,h⟩:=b5.1 h
         refine b9 6 (fun K' hK28=>?_)
         try dsimp only [y1,y2,y3,y4]
         simp only [go_sem,hb2,hb4,hb6,hb14,hb19]
         repeat with_reducible refine zN ?_
         refine hK28 _ ?_
         as_aux_lemma =>
          refine b9 1 (fun K' hK31=>?_)
          try dsimp only [y1,y2,y3,y4]
          simp only [go_sem,hb2,hb4,hb6,hb14,hb19]
          repeat with_reducible refine zN ?_
          refine hK31 _ ?_
          refine g6 ?_
          refine f7 ?_
          refine zV [(3,.bp 3 0),(8,.bp 38000 0),(10,.ii st2.1),(11,.ii st2.2),(12,.bp 12 0),(72,.bool (!(decide (((s.2.2.2.getD st2.1.toNat []).getD (b1.2.2.2.2.2.1.getD st2.2.toNat (0,0,0,0,0,0)).2.2.1.toNat 0)=(b1.2.2.2.2.2.1.getD st2.2.toNat (0,0,0,0,0,0)).2.2.2.1))))] [(3,.box 24 [.ii s.1,.ii s.2.1,.sl (.sl .i) s.2.2.1,.sl (.sl .i) s.2.2.2]),(12,.box 68 [.ii (b1.2.2.2.2.2.1.getD st2.2.toNat (0,0,0,0,0,0)).1,.ii (b1.2.2.2.2.2.1.getD st2.2.toNat (0,0,0,0,0,0)).2.1,.ii (b1.2.2.2.2.2.1.getD st2.2.toNat (0,0,0,0,0,0)).2.2.1,.ii (b1.2.2.2.2.2.1.getD st2.2.toNat (0,0,0,0,0,0)).2.2.2.1,.ii (b1.2.2.2.2.2.1.getD st2.2.toNat (0,0,0,0,0,0)).2.2.2.2.1,.ii (b1.2.2.2.2.2.1.getD st2.2.toNat (0,0,0,0,0,0)).2.2.2.2.2]),(800,.arr 68 Y0 b1.2.2.2.2.2.1),(801,.arr 3 .i b1.2.2.2.2.2.2),(38000,.box 97 [.sl (.sl Y4) c,.sl (.sl .i) [word],.sl .i [],.own 38001,.ii b1.2.1,.ii b1.2.2.1,.ii b1.2.2.2.1,.ii b1.2.2.2.2.1,.own 800,.own 801]),(38001,.arr 161 Y2 b1.1)] gt ?_
          as_aux_lemma =>
           refine zQ h (fun hb32 h=>?_) (fun hb32 h=>?_)
           ·refine zo ?_
            refine zB [(6,.bool false),(7,.ii 0)] [] ?_
            refine zr ?_
            refine d7 ?_
            refine d6 ?_
            obtain rfl:=zj h
            try rw [← hd11 _ rfl] at ho10
            have h:=ho10
            try simp only at h
            refine d6 ?_
            refine d7 ?_
            refine d6 ?_
            obtain rfl:=zj h
            exact zR [] [] []
           refine zk ?_
           refine AW.draw m8 l6 [] [] (by decide) (n6 (by kernel_rfl)) ?_
           as_aux_lemma =>
            obtain ⟨c34,h⟩:=b5.1 h
            obtain ⟨c35,h⟩:=b5.1 h
            refine b9 6 (fun K' hK33=>?_)
            try dsimp only [y1,y2,y3,y4]
            simp only [go_sem,hb2,hb4,hb6,hb14,hb19,hb32]
            repeat with_reducible refine zN ?_
            refine hK33 _ ?_
            as_aux_lemma =>
             obtain ⟨c37,h⟩:=b5.1 h
             obtain ⟨c38,h⟩:=b5.1 h
             refine b9 4 (fun K' hK36=>?_)
             try dsimp only [y1,y2,y3,y4]
             simp only [go_sem,hb2,hb4,hb6,hb14,hb19,hb32]
             repeat with_reducible refine zN ?_
             refine hK36 _ ?_
             refine g6 ?_
             refine i6 ?_
             refine f7 ?_
             refine zV [(3,.bp 3 0),(8,.bp 38000 0),(10,.ii ((s.2.2.1.getD st2.1.toNat []).getD (b1.2.2.2.2.2.1.getD st2.2.toNat (0,0,0,0,0,0)).2.2.1.toNat 0)),(11,.ii st2.2)] [(3,.box 24 [.ii s.1,.ii s.2.1,.sl (.sl .i) s.2.2.1,.sl (.sl .i) s.2.2.2]),(800,.arr 68 Y0 b1.2.2.2.2.2.1),(801,.arr 3 .i b1.2.2.2.2.2.2),(38000,.box 97 [.sl (.sl Y4) c,.sl (.sl .i) [word],.sl .i [],.own 38001,.ii b1.2.1,.ii b1.2.2.1,.ii b1.2.2.2.1,.ii b1.2.2.2.2.1,.own 800,.own 801]),(38001,.arr 161 Y2 b1.1)] gt ?_
             as_aux_lemma =>
              refine AW.ops ?_
              obtain ⟨c39,h⟩:=b5.1 h
              refine zA [(3,.bp 3 0),(8,.bp 38000 0),(10,.ii ((s.2.2.1.getD st2.1.toNat []).getD (b1.2.2.2.2.2.1.getD st2.2.toNat (0,0,0,0,0,0)).2.2.1.toNat 0)),(11,.ii (st2.2+1))] [(3,.box 24 [.ii s.1,.ii s.2.1,.sl (.sl .i) s.2.2.1,.sl (.sl .i) s.2.2.2]),(800,.arr 68 Y0 b1.2.2.2.2.2.1),(801,.arr 3 .i b1.2.2.2.2.2.2),(38000,.box 97 [.sl (.sl Y4) c,.sl (.sl .i) [word],.sl .i [],.own 38001,.ii b1.2.1,.ii b1.2.2.1,.ii b1.2.2.2.1,.ii b1.2.2.2.2.1,.own 800,.own 801]),(38001,.arr 161 Y2 b1.1)] ?_
              obtain rfl:=zj h
              exact ⟨_,rfl,zL [] [] []⟩
    refine AW.exit ?_
    refine g7 ?_
    obtain rfl:=zj h
    try rw [← hd11 _ rfl] at ho10
    have h:=ho10
    try simp only at h
    refine g7 ?_
    refine l9 ?_
    refine f7 ?_
    exact AW.weaken (zL [] [] []) (hk_linealref08_Follows_k2 () h)
 refine AW.seq ?_
 refine zo ?_
 refine zB [(3,.bp 3 0),(8,.bp 38000 0),(9,.ii 0)] [(3,.box 24 [.ii s.1,.ii s.2.1,.sl (.sl .i) s.2.2.1,.sl (.sl .i) s.2.2.2]),(38000,.box 97 [.sl (.sl Y4) c,.sl (.sl .i) [word],.sl .i [],.own 38001,.ii 0,.ii 0,.ii 0,.ii 0,.cv (.slice none 0 0),.cv (.slice none 0 0)]),(38001,.arr 161 Y2 (List.replicate 1 ((0,0,false,0,0,0,0,0):Int×Int×Bool×Int×Int×Int×Int×Int)))] ?_
 refine AW.block ?_
 obtain ⟨rv44,hw40,ho41⟩:=zw h
 refine AW.loopO (n9 c word) (fun st1=>⟨fr [(3,.bp 3 0),(8,.bp 38000 0),(9,.ii st1.2.2.2.2.2.2.2)],b8 [(3,.box 24 [.ii s.1,.ii s.2.1,.sl (.sl .i) s.2.2.1,.sl (.sl .i) s.2.2.2]),(800,.arr 68 Y0 st1.2.2.2.2.2.1),(801,.arr 3 .i st1.2.2.2.2.2.2.1),(38000,.box 97 [.sl (.sl Y4) c,.sl (.sl .i) [word],.sl .i [],.own 38001,.ii st1.2.1,.ii st1.2.2.1,.ii st1.2.2.2.1,.ii st1.2.2.2.2.1,.own 800,.own 801]),(38001,.arr 161 Y2 st1.1)],gt⟩) ((List.replicate 1 ((0,0,false,0,0,0,0,0):Int×Int×Bool×Int×Int×Int×Int×Int)),0,0,0,0,[],[],0) hw40 (zL [] [800,801] []) ?_
 as_aux_lemma =>
  intro st1 x43 h hd42
  unfold n9 at h
  refine AW.seq ?_
  refine zo ?_
  refine zS 3 [(3,.bp 3 0),(8,.bp 38000 0),(9,.ii st1.2.2.2.2.2.2.2),(31,.bool (decide (st1.2.2.2.2.2.2.2<12)))] [(3,.box 24 [.ii s.1,.ii s.2.1,.sl (.sl .i) s.2.2.1,.sl (.sl .i) s.2.2.2]),(800,.arr 68 Y0 st1.2.2.2.2.2.1),(801,.arr 3 .i st1.2.2.2.2.2.2.1),(38000,.box 97 [.sl (.sl Y4) c,.sl (.sl .i) [word],.sl .i [],.own 38001,.ii st1.2.1,.ii st1.2.2.1,.ii st1.2.2.2.1,.ii st1.2.2.2.2.1,.own 800,.own 801]),(38001,.arr 161 Y2 st1.1)] ?_
  rcases zI h with ⟨hb45,h⟩|⟨hb45,h⟩
  ·refine zS 1 [(3,.bp 3 0),(8,.bp 38000 0),(9,.ii st1.2.2.2.2.2.2.2),(31,.bool true),(32,.bp 38000 0)] [(3,.box 24 [.ii s.1,.ii s.2.1,.sl (.sl .i) s.2.2.1,.sl (.sl .i) s.2.2.2]),(800,.arr 68 Y0 st1.2.2.2.2.2.1),(801,.arr 3 .i st1.2.2.2.2.2.2.1),(38000,.box 97 [.sl (.sl Y4) c,.sl (.sl .i) [word],.sl .i [],.own 38001,.ii st1.2.1,.ii st1.2.2.1,.ii st1.2.2.2.1,.ii st1.2.2.2.2.1,.own 800,.own 801]),(38001,.arr 161 Y2 st1.1)] ?_
   obtain ⟨v0_5,hv46,h⟩:=zw h
   refine zG [] [(1000,38000),(1001,38001),(1002,800),(1003,801)] (Q2 c [word] [] st1.2.1 st1.2.2.1 st1.2.2.2.1 st1.2.2.2.2.1 st1.1 st1.2.2.2.2.2.1 st1.2.2.2.2.2.2.1 hv46) [(3,.bp 3 0),(8,.bp 38000 0),(9,.ii st1.2.2.2.2.2.2.2),(31,.bool true),(33,.bool v0_5)] [(3,.box 24 [.ii s.1,.ii s.2.1,.sl (.sl .i) s.2.2.1,.sl (.sl .i) s.2.2.2]),(800,.arr 68 Y0 st1.2.2.2.2.2.1),(801,.arr 3 .i st1.2.2.2.2.2.2.1),(38000,.box 97 [.sl (.sl Y4) c,.sl (.sl .i) [word],.sl .i [],.own 38001,.ii st1.2.1,.ii st1.2.2.1,.ii st1.2.2.2.1,.ii st1.2.2.2.2.1,.own 800,.own 801]),(38001,.arr 161 Y2 st1.1)] ?_
   refine zB [(3,.bp 3 0),(8,.bp 38000 0),(9,.ii st1.2.2.2.2.2.2.2),(35,.bool (!v0_5))] [(3,.box 24 [.ii s.1,.ii s.2.1,.sl (.sl .i) s.2.2.1,.sl (.sl .i) s.2.2.2]),(800,.arr 68 Y0 st1.2.2.2.2.2.1),(801,.arr 3 .i st1.2.2.2.2.2.2.1),(38000,.box 97 [.sl (.sl Y4) c,.sl (.sl .i) [word],.sl .i [],.own 38001,.ii st1.2.1,.ii st1.2.2.1,.ii st1.2.2.2.1,.ii st1.2.2.2.2.1,.own 800,.own 801]),(38001,.arr 161 Y2 st1.1)] ?_
   refine zQ h (fun hb47 h=>?_) (fun hb47 h=>?_)
   ·refine zk ?_
    refine AW.seq ?_
    refine AW.block ?_
    refine AW.ops ?_
    refine zS 1 [(3,.bp 3 0),(8,.bp 38000 0),(9,.ii st1.2.2.2.2.2.2.2),(38,.bp 38000 0)] [(3,.box 24 [.ii s.1,.ii s.2.1,.sl (.sl .i) s.2.2.1,.sl (.sl .i) s.2.2.2]),(800,.arr 68 Y0 st1.2.2.2.2.2.1),(801,.arr 3 .i st1.2.2.2.2.2.2.1),(38000,.box 97 [.sl (.sl Y4) c,.sl (.sl .i) [word],.sl .i [],.own 38001,.ii st1.2.1,.ii st1.2.2.1,.ii st1.2.2.2.1,.ii st1.2.2.2.2.1,.own 800,.own 801]),(38001,.arr 161 Y2 st1.1)] ?_
    obtain ⟨v0_6,hv48,h⟩:=zw h
    refine zC [] [(1000,38000),(1001,38001),(1002,800),(1003,801)] (a0J 0 c [word] [] st1.2.1 st1.2.2.1 st1.2.2.2.1 st1.2.2.2.2.1 st1.1 st1.2.2.2.2.2.1 st1.2.2.2.2.2.2.1 hv48) [(3,.bp 3 0),(8,.bp 38000 0),(9,.ii st1.2.2.2.2.2.2.2)] [(3,.box 24 [.ii s.1,.ii s.2.1,.sl (.sl .i) s.2.2.1,.sl (.sl .i) s.2.2.2]),(38000,.box 97 [.sl (.sl Y4) c,.sl (.sl .i) [word],.sl .i [],.own 38001,.ii (st1.2.1+1),.ii v0_6.2.1,.ii v0_6.2.2.1,.ii v0_6.2.2.2.1,.own 49000,.own 49001]),(38001,.arr 161 Y2 v0_6.1),(49000,.arr 68 Y0 v0_6.2.2.2.2.1),(49001,.arr 3 .i v0_6.2.2.2.2.2)] ?_
    refine zA [(3,.bp 3 0),(8,.bp 38000 0),(9,.ii st1.2.2.2.2.2.2.2)] [(3,.box 24 [.ii s.1,.ii s.2.1,.sl (.sl .i) s.2.2.1,.sl (.sl .i) s.2.2.2]),(38000,.box 97 [.sl (.sl Y4) c,.sl (.sl .i) [word],.sl .i [],.own 38001,.ii (st1.2.1+1),.ii v0_6.2.1,.ii v0_6.2.2.1,.ii v0_6.2.2.2.1,.own 49000,.own 49001]),(38001,.arr 161 Y2 v0_6.1),(49000,.arr 68 Y0 v0_6.2.2.2.2.1),(49001,.arr 3 .i v0_6.2.2.2.2.2)] ?_
    refine i6 ?_
    refine f7 ?_
    refine AW.ops ?_
    obtain ⟨c49,h⟩:=b5.1 h
    refine zA [(3,.bp 3 0),(8,.bp 38000 0),(9,.ii (st1.2.2.2.2.2.2.2+1))] [(3,.box 24 [.ii s.1,.ii s.2.1,.sl (.sl .i) s.2.2.1,.sl (.sl .i) s.2.2.2]),(38000,.box 97 [.sl (.sl Y4) c,.sl (.sl .i) [word],.sl .i [],.own 38001,.ii (st1.2.1+1),.ii v0_6.2.1,.ii v0_6.2.2.1,.ii v0_6.2.2.2.1,.own 49000,.own 49001]),(38001,.arr 161 Y2 v0_6.1),(49000,.arr 68 Y0 v0_6.2.2.2.2.1),(49001,.arr 3 .i v0_6.2.2.2.2.2)] ?_
    obtain rfl:=zj h
    exact ⟨_,rfl,zL [] [] [(800,49000),(801,49001)]⟩
   refine AW.exit ?_
   refine g7 ?_
   obtain rfl:=zj h
   rw [← hd42 _ rfl] at ho41
   have h:=ho41
   refine g7 ?_
   refine l9 ?_
   refine f7 ?_
   have hj:=hk_linealref08_Follows_k1 _ h
   exact AW.weaken (zL [] [] []) hj
  refine zB [(3,.bp 3 0),(8,.bp 38000 0),(9,.ii st1.2.2.2.2.2.2.2),(35,.bool false)] [(3,.box 24 [.ii s.1,.ii s.2.1,.sl (.sl .i) s.2.2.1,.sl (.sl .i) s.2.2.2]),(800,.arr 68 Y0 st1.2.2.2.2.2.1),(801,.arr 3 .i st1.2.2.2.2.2.2.1),(38000,.box 97 [.sl (.sl Y4) c,.sl (.sl .i) [word],.sl .i [],.own 38001,.ii st1.2.1,.ii st1.2.2.1,.ii st1.2.2.2.1,.ii st1.2.2.2.2.1,.own 800,.own 801]),(38001,.arr 161 Y2 st1.1)] ?_
  refine AW.cond (b:=false) rfl (fun hb50=>by cases hb50) (fun _=>?_)
  refine AW.exit ?_
  refine g7 ?_
  obtain rfl:=zj h
  rw [← hd42 _ rfl] at ho41
  have h:=ho41
  refine g7 ?_
  refine l9 ?_
  refine f7 ?_
  have hj:=hk_linealref08_Follows_k1 _ h
  exact AW.weaken (zL [] [] []) hj
theorem a34 (s:List (Int×Int×Int×Int)) {r:(List (Int×Int×Int×Int))} (h:V5 s=some r):HC Try.prog 85 [] [.sl Y4 s] [(2000,.arr 74 Y4 r)] (.own 2000):=by
 unfold V5 at h
 refine zH Try.func85 [.tmp 2] 8 ?_
 refine zo ?_
 refine zB [(0,.sl Y4 s)] [] ?_
 refine AW.seq ?_
 refine zo ?_
 refine zS 1 [(0,.sl Y4 s),(3,.sl Y4 s)] [] ?_
 refine AO.nilEq (neg:=false) m8 (by decide) rfl rfl b1Z rfl rfl rfl (fun hnil1=>?_) ?_
 ·have h:(some [])=some r:=by
   first|(simp only [hnil1] at h ⊢; simpa [ck] using h)|(simp [hnil1,ck] at h ⊢; first|done|exact h)
  refine zT [(0,.sl Y4 s),(4,.bool true)] [] gt ?_
  refine zB [(0,.sl Y4 s),(4,.bool true)] [] ?_
  refine AW.cond (b:=true) rfl (fun _=>?_) (fun hb2=>by cases hb2)
  refine zo ?_
  refine zB [(2,.cv (.slice none 0 0))] [] ?_
  refine zr ?_
  obtain rfl:=zj h
  exact zR [] [2000] []
 refine zT [(0,.sl Y4 s),(4,.bool false)] [] gt ?_
 refine zB [(0,.sl Y4 s),(4,.bool false)] [] ?_
 refine AW.cond (b:=false) rfl (fun hb3=>by cases hb3) (fun _=>?_)
 refine zk ?_
 refine zo ?_
 obtain ⟨c4,h⟩:=b5.1 h
 refine zB [(2,.own 7)] [(7,.arr 74 Y4 s)] ?_
 refine AW.ret ?_
 obtain rfl:=zj h
 exact zR [] [] [(2000,7)]
theorem S1 (cell:Int) (a1:Int) (a2:Int) {r:Int} (h:D0 cell a1 a2=some r):HC Try.prog 136 [(1000,.box 3 [.ii a1]),(1001,.box 3 [.ii a2])] [.ii cell,.bp 1000 0,.bp 1001 0] [(1000,.box 3 [.ii a1]),(1001,.box 3 [.ii a2])] (.ii r):=by
 unfold D0 at h
 refine zH Try.func136 [.tmp 4] 15 ?_
 refine zo ?_
 refine zB [(0,.ii cell),(1,.bp 1000 0),(2,.bp 1001 0)] [(1000,.box 3 [.ii a1]),(1001,.box 3 [.ii a2])] ?_
 refine AW.seq ?_
 refine zo ?_
 refine zB [(0,.ii cell),(1,.bp 1000 0),(2,.bp 1001 0),(5,.ii cell)] [(1000,.box 3 [.ii a1]),(1001,.box 3 [.ii a2])] ?_
 refine AW.block ?_
 refine zo ?_
 refine zB [(0,.ii cell),(1,.bp 1000 0),(2,.bp 1001 0),(5,.ii cell),(6,.bool (decide (cell=a1)))] [(1000,.box 3 [.ii a1]),(1001,.box 3 [.ii a2])] ?_
 refine zQ h (fun hb1 h=>?_) (fun hb1 h=>?_)
 ·refine zo ?_
  refine zB [(4,.ii a2)] [(1000,.box 3 [.ii a1]),(1001,.box 3 [.ii a2])] ?_
  refine AW.ret ?_
  refine d7 ?_
  refine d6 ?_
  obtain rfl:=zj h
  exact zR [] [] []
 refine zo ?_
 refine zB [(0,.ii cell),(1,.bp 1000 0),(10,.bool (decide (cell=a2)))] [(1000,.box 3 [.ii a1]),(1001,.box 3 [.ii a2])] ?_
 refine zQ h (fun hb2 h=>?_) (fun hb2 h=>?_)
 ·refine zo ?_
  refine zB [(4,.ii a1)] [(1000,.box 3 [.ii a1]),(1001,.box 3 [.ii a2])] ?_
  refine AW.ret ?_
  refine d7 ?_
  refine d6 ?_
  obtain rfl:=zj h
  exact zR [] [] []
 refine zm ?_
 refine f7 ?_
 refine zo ?_
 refine zB [(4,.ii cell)] [(1000,.box 3 [.ii a1]),(1001,.box 3 [.ii a2])] ?_
 refine AW.ret ?_
 obtain rfl:=zj h
 exact zR [] [] []
theorem a36 (l:Int×Int×Int×Int) (a:Int) (b:Int) {r:Int×Int} (h:Q8 l a b=some r):HC Try.prog 86 [] [.agg [.ii l.1,.ii l.2.1,.ii l.2.2.1,.ii l.2.2.2],.ii a,.ii b] [] (.agg [.ii l.1,.ii r.1,.ii r.2,.ii l.2.2.2]):=by
 unfold Q8 at h
 refine zH Try.func86 [.cell 6 74] 27 ?_
 refine zo ?_
 refine zB [(3,.bp 3 0),(4,.bp 4 0),(5,.bp 5 0),(6,.bp 6 0)] [(3,.box 74 [.ii l.1,.ii l.2.1,.ii l.2.2.1,.ii l.2.2.2]),(4,.box 3 [.ii a]),(5,.box 3 [.ii b]),(6,.box 74 [.ii 0,.ii 0,.ii 0,.ii 0])] ?_
 refine zo ?_
 refine zB [(3,.bp 3 0),(6,.bp 6 0),(7,.fn (.func 136) [] [.bp 4 0,.bp 5 0])] [(3,.box 74 [.ii l.1,.ii l.2.1,.ii l.2.2.1,.ii l.2.2.2]),(4,.box 3 [.ii a]),(5,.box 3 [.ii b]),(6,.box 74 [.ii 0,.ii 0,.ii 0,.ii 0])] ?_
 refine AW.seq ?_
 refine zo ?_
 refine zB [(3,.bp 3 0),(6,.bp 6 0),(7,.fn (.func 136) [] [.bp 4 0,.bp 5 0]),(10,.ii l.1)] [(3,.box 74 [.ii l.1,.ii l.2.1,.ii l.2.2.1,.ii l.2.2.2]),(4,.box 3 [.ii a]),(5,.box 3 [.ii b]),(6,.box 74 [.ii 0,.ii 0,.ii 0,.ii 0])] ?_
 refine AW.block ?_
 refine zo ?_
 refine zB [(3,.bp 3 0),(6,.bp 6 0),(7,.fn (.func 136) [] [.bp 4 0,.bp 5 0]),(10,.ii l.1),(11,.bool (decide (l.1=1)))] [(3,.box 74 [.ii l.1,.ii l.2.1,.ii l.2.2.1,.ii l.2.2.2]),(4,.box 3 [.ii a]),(5,.box 3 [.ii b]),(6,.box 74 [.ii 0,.ii 0,.ii 0,.ii 0])] ?_
 refine zQ h (fun hb1 h=>?_) (fun hb1 h=>?_)
 ·refine AW.ops ?_
  refine zS 3 [(3,.bp 3 0),(6,.bp 6 0),(13,.fn (.func 136) [] [.bp 4 0,.bp 5 0]),(15,.ii l.2.2.1)] [(3,.box 74 [.ii l.1,.ii l.2.1,.ii l.2.2.1,.ii l.2.2.2]),(4,.box 3 [.ii a]),(5,.box 3 [.ii b]),(6,.box 74 [.ii 0,.ii 0,.ii 0,.ii 0])] ?_
  obtain ⟨v0,hv2,h⟩:=zw h
  refine zC [] [(1000,4),(1001,5)] (S1 l.2.2.1 a b hv2) [(3,.bp 3 0),(6,.bp 6 0),(16,.ii v0)] [(3,.box 74 [.ii l.1,.ii l.2.1,.ii l.2.2.1,.ii l.2.2.2]),(6,.box 74 [.ii 0,.ii 0,.ii 0,.ii 0])] ?_
  refine zA [(3,.bp 3 0),(6,.bp 6 0)] [(3,.box 74 [.ii l.1,.ii l.2.1,.ii v0,.ii l.2.2.2]),(6,.box 74 [.ii 0,.ii 0,.ii 0,.ii 0])] ?_
  refine i6 ?_
  refine f7 ?_
  refine zo ?_
  refine zB [(6,.bp 6 0)] [(6,.box 74 [.ii l.1,.ii l.2.1,.ii v0,.ii l.2.2.2])] ?_
  refine AW.ret ?_
  obtain rfl:=zj h
  exact zR [] [] []
 refine AW.seq ?_
 refine zo ?_
 refine zB [(3,.bp 3 0),(6,.bp 6 0),(7,.fn (.func 136) [] [.bp 4 0,.bp 5 0]),(10,.ii l.1),(18,.bool (decide (l.1=2)))] [(3,.box 74 [.ii l.1,.ii l.2.1,.ii l.2.2.1,.ii l.2.2.2]),(4,.box 3 [.ii a]),(5,.box 3 [.ii b]),(6,.box 74 [.ii 0,.ii 0,.ii 0,.ii 0])] ?_
 refine zQ h (fun hb3 h=>?_) (fun hb3 h=>?_)
 ·refine zk ?_
  refine zQ h (fun hb4 h=>?_) (fun hb4 h=>?_)
  ·refine AW.ops ?_
   refine zS 3 [(3,.bp 3 0),(6,.bp 6 0),(21,.fn (.func 136) [] [.bp 4 0,.bp 5 0]),(23,.ii l.2.1)] [(3,.box 74 [.ii l.1,.ii l.2.1,.ii l.2.2.1,.ii l.2.2.2]),(4,.box 3 [.ii a]),(5,.box 3 [.ii b]),(6,.box 74 [.ii 0,.ii 0,.ii 0,.ii 0])] ?_
   obtain ⟨v0_2,hv5,h⟩:=zw h
   refine zC [] [(1000,4),(1001,5)] (S1 l.2.1 a b hv5) [(3,.bp 3 0),(6,.bp 6 0),(24,.ii v0_2)] [(3,.box 74 [.ii l.1,.ii l.2.1,.ii l.2.2.1,.ii l.2.2.2]),(6,.box 74 [.ii 0,.ii 0,.ii 0,.ii 0])] ?_
   refine zA [(3,.bp 3 0),(6,.bp 6 0)] [(3,.box 74 [.ii l.1,.ii v0_2,.ii l.2.2.1,.ii l.2.2.2]),(6,.box 74 [.ii 0,.ii 0,.ii 0,.ii 0])] ?_
   refine i6 ?_
   refine f7 ?_
   refine zo ?_
   refine zB [(6,.bp 6 0)] [(6,.box 74 [.ii l.1,.ii v0_2,.ii l.2.2.1,.ii l.2.2.2])] ?_
   refine AW.ret ?_
   obtain rfl:=zj h
   exact zR [] [] []
  exact absurd (hb3.symm.trans hb4) (by decide)
 refine AW.ops ?_
 refine zB [(3,.bp 3 0),(6,.bp 6 0),(7,.fn (.func 136) [] [.bp 4 0,.bp 5 0]),(18,.bool (decide (l.1=3)))] [(3,.box 74 [.ii l.1,.ii l.2.1,.ii l.2.2.1,.ii l.2.2.2]),(4,.box 3 [.ii a]),(5,.box 3 [.ii b]),(6,.box 74 [.ii 0,.ii 0,.ii 0,.ii 0])] ?_
 refine zQ h (fun hb6 h=>?_) (fun hb6 h=>?_)
 ·refine AW.ops ?_
  refine zS 3 [(3,.bp 3 0),(6,.bp 6 0),(21,.fn (.func 136) [] [.bp 4 0,.bp 5 0]),(23,.ii l.2.1)] [(3,.box 74 [.ii l.1,.ii l.2.1,.ii l.2.2.1,.ii l.2.2.2]),(4,.box 3 [.ii a]),(5,.box 3 [.ii b]),(6,.box 74 [.ii 0,.ii 0,.ii 0,.ii 0])] ?_
  obtain ⟨v0_3,hv7,h⟩:=zw h
  refine zC [] [(1000,4),(1001,5)] (S1 l.2.1 a b hv7) [(3,.bp 3 0),(6,.bp 6 0),(24,.ii v0_3)] [(3,.box 74 [.ii l.1,.ii l.2.1,.ii l.2.2.1,.ii l.2.2.2]),(6,.box 74 [.ii 0,.ii 0,.ii 0,.ii 0])] ?_
  refine zA [(3,.bp 3 0),(6,.bp 6 0)] [(3,.box 74 [.ii l.1,.ii v0_3,.ii l.2.2.1,.ii l.2.2.2]),(6,.box 74 [.ii 0,.ii 0,.ii 0,.ii 0])] ?_
  refine i6 ?_
  refine f7 ?_
  refine zo ?_
  refine zB [(6,.bp 6 0)] [(6,.box 74 [.ii l.1,.ii v0_3,.ii l.2.2.1,.ii l.2.2.2])] ?_
  refine AW.ret ?_
  obtain rfl:=zj h
  exact zR [] [] []
 refine zm ?_
 refine f7 ?_
 refine zo ?_
 refine zB [(6,.bp 6 0)] [(6,.box 74 [.ii l.1,.ii l.2.1,.ii l.2.2.1,.ii l.2.2.2])] ?_
 refine AW.ret ?_
 obtain rfl:=zj h
 exact zR [] [] []
end Go.Proofs.Ytenchhmcjmjlbaa
