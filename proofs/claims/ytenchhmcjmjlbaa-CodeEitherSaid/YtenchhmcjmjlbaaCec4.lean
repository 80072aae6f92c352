import Derived.Test.YtenchhmcjmjlbaaCkp
import Derived.Test.YtenchhmcjmjlbaaShk
import Derived.Test.YtenchhmcjmjlbaaAvd
import Derived.Test.YtenchhmcjmjlbaaCec3
namespace Go.Proofs.Ytenchhmcjmjlbaa
open Go.RowKit
set_option linter.unusedSimpArgs false
set_option linter.unusedVariables false
set_option linter.constructorNameAsVariable false
set_option maxRecDepth 100000
set_option maxHeartbeats 40000000
theorem a2m (r0:((List (List (Int×Int×Int×Int)))×(List (List Int)))×(List Int)×(El T80)×(Int×Int×Int)×(El T85)×(El T86)×Int) (thread:Int) {r:(El T80)×Int×Int×Int×(El T85)×(El T86)×Int} (h:O0 r0 thread=some r):HC Try.prog 135 [] [.agg (.sl (.sl Y4) r0.1.1::(.sl (.sl .i) r0.1.2::(.sl .i r0.2.1::(b3 T80 r0.2.2.1++(.ii r0.2.2.2.1.1::(.ii r0.2.2.2.1.2.1::(.ii r0.2.2.2.1.2.2::(b3 T85 r0.2.2.2.2.1++(b3 T86 r0.2.2.2.2.2.1++(.ii r0.2.2.2.2.2.2::[])))))))))),.ii thread] [(2000,.arr 3 .i ((r0.2.1.take r0.2.1.length)++[thread]))] (.agg (.sl (.sl Y4) r0.1.1::(.sl (.sl .i) r0.1.2::(.own 2000::(b3 T80 r.1++(.ii r.2.1::(.ii r.2.2.1::(.ii r.2.2.2.1::(b3 T85 r.2.2.2.2.1++(b3 T86 r.2.2.2.2.2.1++(.ii r.2.2.2.2.2.2::[]))))))))))):=by
 unfold O0 at h
 refine zH Try.func135 [.cell 4 88] 140 ?_
 refine zo ?_
 refine zB [(1,.ii thread),(2,.bp 2 0),(4,.bp 4 0)] [(2,.box 88 (.sl (.sl Y4) r0.1.1::(.sl (.sl .i) r0.1.2::(.sl .i r0.2.1::(b3 T80 r0.2.2.1++(.ii r0.2.2.2.1.1::(.ii r0.2.2.2.1.2.1::(.ii r0.2.2.2.1.2.2::(b3 T85 r0.2.2.2.2.1++(b3 T86 r0.2.2.2.2.2.1++(.ii r0.2.2.2.2.2.2::[]))))))))))),(4,.box 88 (.cv (.slice none 0 0)::(.cv (.slice none 0 0)::(.cv (.slice none 0 0)::(b3 T80 (Ty.dflt T80)++(.ii 0::(.ii 0::(.ii 0::(b3 T85 (Ty.dflt T85)++(b3 T86 (Ty.dflt T86)++(.ii 0::[])))))))))))] ?_
 refine zo ?_
 refine zB [(1,.ii thread),(2,.bp 2 0),(4,.bp 4 0),(5,.ii (r0.2.1.length:Int))] [(2,.box 88 (.sl (.sl Y4) r0.1.1::(.sl (.sl .i) r0.1.2::(.sl .i r0.2.1::(b3 T80 r0.2.2.1++(.ii r0.2.2.2.1.1::(.ii r0.2.2.2.1.2.1::(.ii r0.2.2.2.1.2.2::(b3 T85 r0.2.2.2.2.1++(b3 T86 r0.2.2.2.2.2.1++(.ii r0.2.2.2.2.2.2::[]))))))))))),(4,.box 88 (.cv (.slice none 0 0)::(.cv (.slice none 0 0)::(.cv (.slice none 0 0)::(b3 T80 (Ty.dflt T80)++(.ii 0::(.ii 0::(.ii 0::(b3 T85 (Ty.dflt T85)++(b3 T86 (Ty.dflt T86)++(.ii 0::[])))))))))))] ?_
 refine zo ?_
 refine zS 4 [(1,.ii thread),(2,.bp 2 0),(4,.bp 4 0),(5,.ii (r0.2.1.length:Int)),(14,.sl .i r0.2.1),(15,.ii (r0.2.1.length:Int)),(16,.ii (r0.2.1.length:Int))] [(2,.box 88 (.sl (.sl Y4) r0.1.1::(.sl (.sl .i) r0.1.2::(.sl .i r0.2.1::(b3 T80 r0.2.2.1++(.ii r0.2.2.2.1.1::(.ii r0.2.2.2.1.2.1::(.ii r0.2.2.2.1.2.2::(b3 T85 r0.2.2.2.2.1++(b3 T86 r0.2.2.2.2.2.1++(.ii r0.2.2.2.2.2.2::[]))))))))))),(4,.box 88 (.cv (.slice none 0 0)::(.cv (.slice none 0 0)::(.cv (.slice none 0 0)::(b3 T80 (Ty.dflt T80)++(.ii 0::(.ii 0::(.ii 0::(b3 T85 (Ty.dflt T85)++(b3 T86 (Ty.dflt T86)++(.ii 0::[])))))))))))] ?_
 obtain ⟨c1,h⟩:=b5.1 h
 refine AO.appendCut r4 (by decide) (by decide) (by decide) (by decide) (by decide) rfl rfl rfl rfl rfl rfl rfl rfl rfl rfl rfl rfl b30 rfl b7d rfl rfl (by first|rfl|(simp only [go_sem])<;>(with_reducible and_intros)<;>first|assumption|rfl|omega|(unfold maxLen; omega)) (by first|rfl|(simp only [go_sem])<;>(with_reducible and_intros)<;>first|assumption|rfl|omega|(unfold maxLen; omega)) (by first|rfl|(simp only [go_sem])<;>(with_reducible and_intros)<;>first|assumption|rfl|omega|(unfold maxLen; omega)) (by first|rfl|(simp only [go_sem])<;>(with_reducible and_intros)<;>first|assumption|rfl|omega|(unfold maxLen; omega)) (by first|assumption|omega|(simp only [go_sem])<;>(with_reducible and_intros)<;>first|assumption|rfl|omega|(unfold maxLen; omega)) (by first|assumption|omega|(simp only [go_sem])<;>(with_reducible and_intros)<;>first|assumption|rfl|omega|(unfold maxLen; omega)) (by first|assumption|omega|(simp only [go_sem])<;>(with_reducible and_intros)<;>first|assumption|rfl|omega|(unfold maxLen; omega)) (by decide) ?_
 refine zT [(1,.ii thread),(2,.bp 2 0),(4,.bp 4 0),(5,.ii (r0.2.1.length:Int)),(20,.own 20)] [(2,.box 88 (.sl (.sl Y4) r0.1.1::(.sl (.sl .i) r0.1.2::(.sl .i r0.2.1::(b3 T80 r0.2.2.1++(.ii r0.2.2.2.1.1::(.ii r0.2.2.2.1.2.1::(.ii r0.2.2.2.1.2.2::(b3 T85 r0.2.2.2.2.1++(b3 T86 r0.2.2.2.2.2.1++(.ii r0.2.2.2.2.2.2::[]))))))))))),(4,.box 88 (.cv (.slice none 0 0)::(.cv (.slice none 0 0)::(.cv (.slice none 0 0)::(b3 T80 (Ty.dflt T80)++(.ii 0::(.ii 0::(.ii 0::(b3 T85 (Ty.dflt T85)++(b3 T86 (Ty.dflt T86)++(.ii 0::[]))))))))))),(20,.arr 3 .i ((r0.2.1.take r0.2.1.length)++[thread]))] gt ?_
 refine zB [(1,.ii thread),(2,.bp 2 0),(4,.bp 4 0),(5,.ii (r0.2.1.length:Int))] [(2,.box 88 (.sl (.sl Y4) r0.1.1::(.sl (.sl .i) r0.1.2::(.own 20::(b3 T80 r0.2.2.1++(.ii r0.2.2.2.1.1::(.ii r0.2.2.2.1.2.1::(.ii r0.2.2.2.1.2.2::(b3 T85 r0.2.2.2.2.1++(b3 T86 r0.2.2.2.2.2.1++(.ii r0.2.2.2.2.2.2::[]))))))))))),(4,.box 88 (.cv (.slice none 0 0)::(.cv (.slice none 0 0)::(.cv (.slice none 0 0)::(b3 T80 (Ty.dflt T80)++(.ii 0::(.ii 0::(.ii 0::(b3 T85 (Ty.dflt T85)++(b3 T86 (Ty.dflt T86)++(.ii 0::[]))))))))))),(20,.arr 3 .i ((r0.2.1.take r0.2.1.length)++[thread]))] ?_
 refine zo ?_
 obtain ⟨c2,h⟩:=b5.1 h
 obtain ⟨c3,h⟩:=b5.1 h
 refine zB [(1,.ii thread),(2,.bp 2 0),(4,.bp 4 0),(5,.ii (r0.2.1.length:Int)),(6,.bp 2 (30+thread.toNat*8))] [(2,.box 88 (.sl (.sl Y4) r0.1.1::(.sl (.sl .i) r0.1.2::(.own 20::(b3 T80 r0.2.2.1++(.ii r0.2.2.2.1.1::(.ii r0.2.2.2.1.2.1::(.ii r0.2.2.2.1.2.2::(b3 T85 r0.2.2.2.2.1++(b3 T86 r0.2.2.2.2.2.1++(.ii r0.2.2.2.2.2.2::[]))))))))))),(4,.box 88 (.cv (.slice none 0 0)::(.cv (.slice none 0 0)::(.cv (.slice none 0 0)::(b3 T80 (Ty.dflt T80)++(.ii 0::(.ii 0::(.ii 0::(b3 T85 (Ty.dflt T85)++(b3 T86 (Ty.dflt T86)++(.ii 0::[]))))))))))),(20,.arr 3 .i ((r0.2.1.take r0.2.1.length)++[thread]))] ?_
 refine AW.have1 (fun b1:(El T85)×(El T86)×Int=>E3 r0 thread b1=some r) (fun b1=>⟨fr [(2,.bp 2 0),(4,.bp 4 0),(5,.ii (r0.2.1.length:Int)),(6,.bp 2 (30+thread.toNat*8))],b6 [(2,.box 88 (.sl (.sl Y4) r0.1.1::(.sl (.sl .i) r0.1.2::(.own 20::(b3 T80 r0.2.2.1++(.ii r0.2.2.2.1.1::(.ii r0.2.2.2.1.2.1::(.ii r0.2.2.2.1.2.2::(b3 T85 b1.1++(b3 T86 b1.2.1++(.ii b1.2.2::[]))))))))))),(4,.box 88 (.cv (.slice none 0 0)::(.cv (.slice none 0 0)::(.cv (.slice none 0 0)::(b3 T80 (Ty.dflt T80)++(.ii 0::(.ii 0::(.ii 0::(b3 T85 (Ty.dflt T85)++(b3 T86 (Ty.dflt T86)++(.ii 0::[]))))))))))),(20,.arr 3 .i ((r0.2.1.take r0.2.1.length)++[thread]))],gt⟩) (fun b1 h=>?_) (fun hk_code_run_step_k1=>?_)
 ·as_aux_lemma =>
   unfold E3 at h
   refine zo ?_
   obtain ⟨c4,h⟩:=b5.1 h
   have hx5:((thread.toNat*8)+2)<16:=o8 c4
   refine zS 5 [(2,.bp 2 0),(4,.bp 4 0),(5,.ii (r0.2.1.length:Int)),(6,.bp 2 (30+thread.toNat*8)),(69,.ii (b7 T85 b1.1 ((thread.toNat*8)+2))),(70,.bp 2 46)] [(2,.box 88 (.sl (.sl Y4) r0.1.1::(.sl (.sl .i) r0.1.2::(.own 20::(b3 T80 r0.2.2.1++(.ii r0.2.2.2.1.1::(.ii r0.2.2.2.1.2.1::(.ii r0.2.2.2.1.2.2::(b3 T85 b1.1++(b3 T86 b1.2.1++(.ii b1.2.2::[]))))))))))),(4,.box 88 (.cv (.slice none 0 0)::(.cv (.slice none 0 0)::(.cv (.slice none 0 0)::(b3 T80 (Ty.dflt T80)++(.ii 0::(.ii 0::(.ii 0::(b3 T85 (Ty.dflt T85)++(b3 T86 (Ty.dflt T86)++(.ii 0::[]))))))))))),(20,.arr 3 .i ((r0.2.1.take r0.2.1.length)++[thread]))] ?_ (h:=by (simp only [go_sem,c4])<;>(with_reducible and_intros)<;>first|assumption|rfl|omega|(unfold maxLen; omega))
   obtain ⟨c6,h⟩:=b5.1 h
   obtain ⟨c7,h⟩:=b5.1 h
   refine zB [(2,.bp 2 0),(4,.bp 4 0),(5,.ii (r0.2.1.length:Int)),(6,.bp 2 (30+thread.toNat*8)),(8,.bp 2 (46+(b7 T85 b1.1 ((thread.toNat*8)+2)).toNat*6))] [(2,.box 88 (.sl (.sl Y4) r0.1.1::(.sl (.sl .i) r0.1.2::(.own 20::(b3 T80 r0.2.2.1++(.ii r0.2.2.2.1.1::(.ii r0.2.2.2.1.2.1::(.ii r0.2.2.2.1.2.2::(b3 T85 b1.1++(b3 T86 b1.2.1++(.ii b1.2.2::[]))))))))))),(4,.box 88 (.cv (.slice none 0 0)::(.cv (.slice none 0 0)::(.cv (.slice none 0 0)::(b3 T80 (Ty.dflt T80)++(.ii 0::(.ii 0::(.ii 0::(b3 T85 (Ty.dflt T85)++(b3 T86 (Ty.dflt T86)++(.ii 0::[]))))))))))),(20,.arr 3 .i ((r0.2.1.take r0.2.1.length)++[thread]))] ?_ (h:=by (simp only [go_sem,c4])<;>(with_reducible and_intros)<;>first|assumption|rfl|omega|(unfold maxLen; omega))
   refine AW.seq ?_
   refine AW.draw r4 p5 [(15,[9]),(16,[9])] [(0,[2,20]),(1,[2,20]),(2,[2,20,1000000020]),(3,[2]),(4,[2,20,999999]),(5,[2,20]),(6,[2,20]),(7,[]),(8,[]),(9,[2]),(10,[2,20,999999]),(11,[2,20]),(12,[2,20]),(13,[]),(14,[]),(100016,[])] (by decide) (v9 (by kernel_rfl)) ?_
   as_aux_lemma =>
    refine f8 6 (fun K' hK8=>?_)
    try dsimp only [y1,y2,y3,y4]
    simp only [go_sem,c4]
    repeat with_reducible refine zN ?_
    refine hK8 _ ?_
    as_aux_lemma =>
     have hx10:(((b7 T85 b1.1 ((thread.toNat*8)+2)).toNat*6)+2)<36:=by omega
     obtain ⟨c11,h⟩:=b5.1 h
     obtain ⟨c12,h⟩:=b5.1 h
     refine f8 6 (fun K' hK9=>?_)
     try dsimp only [y1,y2,y3,y4]
     simp only [go_sem,c4,hx10]
     repeat with_reducible refine zN ?_
     refine hK9 _ ?_
     as_aux_lemma =>
      obtain ⟨c14,h⟩:=b5.1 h
      have hx15:((thread.toNat*8)+3)<16:=o8 c14
      obtain ⟨c16,h⟩:=b5.1 h
      obtain ⟨c17,h⟩:=b5.1 h
      refine f8 5 (fun K' hK13=>?_)
      try dsimp only [y1,y2,y3,y4]
      simp only [go_sem,c4,hx10,c14]
      repeat with_reducible refine zN ?_
      refine hK13 _ ?_
      refine j8 ?_
      refine g5 ?_
      refine zV [(2,.bp 2 0),(4,.bp 4 0),(5,.ii (r0.2.1.length:Int)),(6,.bp 2 (30+thread.toNat*8)),(8,.bp 2 (46+(b7 T85 b1.1 ((thread.toNat*8)+2)).toNat*6)),(9,.bp 9 0)] [(2,.box 88 (.sl (.sl Y4) r0.1.1::(.sl (.sl .i) r0.1.2::(.own 20::(b3 T80 r0.2.2.1++(.ii r0.2.2.2.1.1::(.ii r0.2.2.2.1.2.1::(.ii r0.2.2.2.1.2.2::(b3 T85 b1.1++(b3 T86 b1.2.1++(.ii b1.2.2::[]))))))))))),(4,.box 88 (.cv (.slice none 0 0)::(.cv (.slice none 0 0)::(.cv (.slice none 0 0)::(b3 T80 (Ty.dflt T80)++(.ii 0::(.ii 0::(.ii 0::(b3 T85 (Ty.dflt T85)++(b3 T86 (Ty.dflt T86)++(.ii 0::[]))))))))))),(9,.box 74 [.ii ((r0.1.1.getD (b7 T86 b1.2.1 (((b7 T85 b1.1 ((thread.toNat*8)+2)).toNat*6)+2)).toNat []).getD (b7 T85 b1.1 ((thread.toNat*8)+3)).toNat (0,0,0,0)).1,.ii ((r0.1.1.getD (b7 T86 b1.2.1 (((b7 T85 b1.1 ((thread.toNat*8)+2)).toNat*6)+2)).toNat []).getD (b7 T85 b1.1 ((thread.toNat*8)+3)).toNat (0,0,0,0)).2.1,.ii ((r0.1.1.getD (b7 T86 b1.2.1 (((b7 T85 b1.1 ((thread.toNat*8)+2)).toNat*6)+2)).toNat []).getD (b7 T85 b1.1 ((thread.toNat*8)+3)).toNat (0,0,0,0)).2.2.1,.ii ((r0.1.1.getD (b7 T86 b1.2.1 (((b7 T85 b1.1 ((thread.toNat*8)+2)).toNat*6)+2)).toNat []).getD (b7 T85 b1.1 ((thread.toNat*8)+3)).toNat (0,0,0,0)).2.2.2]),(20,.arr 3 .i ((r0.2.1.take r0.2.1.length)++[thread]))] gt ?_
      as_aux_lemma =>
       refine AW.seq ?_
       refine AW.draw r4 p5 [(12,[2])] [] (by decide) (v9 (by kernel_rfl)) ?_
       as_aux_lemma =>
        obtain ⟨c19,h⟩:=b5.1 h
        have hx20:((thread.toNat*8)+2)<16:=o8 c19
        refine f8 6 (fun K' hK18=>?_)
        try dsimp only [y1,y2,y3,y4]
        simp only [go_sem,c4,hx10,c14,c19]
        repeat with_reducible refine zN ?_
        refine hK18 _ ?_
        as_aux_lemma =>
         obtain ⟨c22,h⟩:=b5.1 h
         have hx23:((thread.toNat*8)+3)<16:=o8 c22
         obtain ⟨c24,h⟩:=b5.1 h
         refine f8 6 (fun K' hK21=>?_)
         try dsimp only [y1,y2,y3,y4]
         simp only [go_sem,c4,hx10,c14,c19,c22]
         repeat with_reducible refine zN ?_
         refine hK21 _ ?_
         as_aux_lemma =>
          have hx26:((r0.2.1.length*2)+2)≤24:=by omega
          refine f8 1 (fun K' hK25=>?_)
          try dsimp only [y1,y2,y3,y4]
          simp only [go_sem,c4,hx10,c14,c19,c22,hx26]
          repeat with_reducible refine zN ?_
          refine hK25 _ ?_
          refine j8 ?_
          refine g5 ?_
          refine zV [(2,.bp 2 0),(4,.bp 4 0),(5,.ii (r0.2.1.length:Int)),(6,.bp 2 (30+thread.toNat*8)),(8,.bp 2 (46+(b7 T85 b1.1 ((thread.toNat*8)+2)).toNat*6)),(9,.bp 9 0)] [(2,.box 88 (.sl (.sl Y4) r0.1.1::(.sl (.sl .i) r0.1.2::(.own 20::(b3 T80 (E5 T80 (.pair .i .i) r0.2.2.1 (r0.2.1.length*2) ((b7 T85 b1.1 ((thread.toNat*8)+2)),(b7 T85 b1.1 ((thread.toNat*8)+3))))++(.ii r0.2.2.2.1.1::(.ii r0.2.2.2.1.2.1::(.ii r0.2.2.2.1.2.2::(b3 T85 b1.1++(b3 T86 b1.2.1++(.ii b1.2.2::[]))))))))))),(4,.box 88 (.cv (.slice none 0 0)::(.cv (.slice none 0 0)::(.cv (.slice none 0 0)::(b3 T80 (Ty.dflt T80)++(.ii 0::(.ii 0::(.ii 0::(b3 T85 (Ty.dflt T85)++(b3 T86 (Ty.dflt T86)++(.ii 0::[]))))))))))),(9,.box 74 [.ii ((r0.1.1.getD (b7 T86 b1.2.1 (((b7 T85 b1.1 ((thread.toNat*8)+2)).toNat*6)+2)).toNat []).getD (b7 T85 b1.1 ((thread.toNat*8)+3)).toNat (0,0,0,0)).1,.ii ((r0.1.1.getD (b7 T86 b1.2.1 (((b7 T85 b1.1 ((thread.toNat*8)+2)).toNat*6)+2)).toNat []).getD (b7 T85 b1.1 ((thread.toNat*8)+3)).toNat (0,0,0,0)).2.1,.ii ((r0.1.1.getD (b7 T86 b1.2.1 (((b7 T85 b1.1 ((thread.toNat*8)+2)).toNat*6)+2)).toNat []).getD (b7 T85 b1.1 ((thread.toNat*8)+3)).toNat (0,0,0,0)).2.2.1,.ii ((r0.1.1.getD (b7 T86 b1.2.1 (((b7 T85 b1.1 ((thread.toNat*8)+2)).toNat*6)+2)).toNat []).getD (b7 T85 b1.1 ((thread.toNat*8)+3)).toNat (0,0,0,0)).2.2.2]),(20,.arr 3 .i ((r0.2.1.take r0.2.1.length)++[thread]))] gt ?_
          as_aux_lemma =>
           refine zo ?_
           obtain ⟨c27,h⟩:=b5.1 h
           have hx28:((thread.toNat*8)+3)<16:=o8 c27
           obtain ⟨c29,h⟩:=b5.1 h
           refine zS 5 [(2,.bp 2 0),(4,.bp 4 0),(5,.ii (r0.2.1.length:Int)),(6,.bp 2 (30+thread.toNat*8)),(8,.bp 2 (46+(b7 T85 b1.1 ((thread.toNat*8)+2)).toNat*6)),(9,.bp 9 0),(99,.bp 2 (30+thread.toNat*8)),(103,.ii ((b7 T85 b1.1 ((thread.toNat*8)+3))+1))] [(2,.box 88 (.sl (.sl Y4) r0.1.1::(.sl (.sl .i) r0.1.2::(.own 20::(b3 T80 (E5 T80 (.pair .i .i) r0.2.2.1 (r0.2.1.length*2) ((b7 T85 b1.1 ((thread.toNat*8)+2)),(b7 T85 b1.1 ((thread.toNat*8)+3))))++(.ii r0.2.2.2.1.1::(.ii r0.2.2.2.1.2.1::(.ii r0.2.2.2.1.2.2::(b3 T85 b1.1++(b3 T86 b1.2.1++(.ii b1.2.2::[]))))))))))),(4,.box 88 (.cv (.slice none 0 0)::(.cv (.slice none 0 0)::(.cv (.slice none 0 0)::(b3 T80 (Ty.dflt T80)++(.ii 0::(.ii 0::(.ii 0::(b3 T85 (Ty.dflt T85)++(b3 T86 (Ty.dflt T86)++(.ii 0::[]))))))))))),(9,.box 74 [.ii ((r0.1.1.getD (b7 T86 b1.2.1 (((b7 T85 b1.1 ((thread.toNat*8)+2)).toNat*6)+2)).toNat []).getD (b7 T85 b1.1 ((thread.toNat*8)+3)).toNat (0,0,0,0)).1,.ii ((r0.1.1.getD (b7 T86 b1.2.1 (((b7 T85 b1.1 ((thread.toNat*8)+2)).toNat*6)+2)).toNat []).getD (b7 T85 b1.1 ((thread.toNat*8)+3)).toNat (0,0,0,0)).2.1,.ii ((r0.1.1.getD (b7 T86 b1.2.1 (((b7 T85 b1.1 ((thread.toNat*8)+2)).toNat*6)+2)).toNat []).getD (b7 T85 b1.1 ((thread.toNat*8)+3)).toNat (0,0,0,0)).2.2.1,.ii ((r0.1.1.getD (b7 T86 b1.2.1 (((b7 T85 b1.1 ((thread.toNat*8)+2)).toNat*6)+2)).toNat []).getD (b7 T85 b1.1 ((thread.toNat*8)+3)).toNat (0,0,0,0)).2.2.2]),(20,.arr 3 .i ((r0.2.1.take r0.2.1.length)++[thread]))] ?_ (h:=by (simp only [go_sem,c4,hx10,c14,c19,c22,hx26,c27])<;>(with_reducible and_intros)<;>first|assumption|rfl|omega|(unfold maxLen; omega))
           obtain ⟨c30,h⟩:=b5.1 h
           have hx31:((thread.toNat*8)+3)<16:=o8 c30
           refine zB [(2,.bp 2 0),(4,.bp 4 0),(5,.ii (r0.2.1.length:Int)),(6,.bp 2 (30+thread.toNat*8)),(8,.bp 2 (46+(b7 T85 b1.1 ((thread.toNat*8)+2)).toNat*6)),(9,.bp 9 0)] [(2,.box 88 (.sl (.sl Y4) r0.1.1::(.sl (.sl .i) r0.1.2::(.own 20::(b3 T80 (E5 T80 (.pair .i .i) r0.2.2.1 (r0.2.1.length*2) ((b7 T85 b1.1 ((thread.toNat*8)+2)),(b7 T85 b1.1 ((thread.toNat*8)+3))))++(.ii r0.2.2.2.1.1::(.ii r0.2.2.2.1.2.1::(.ii r0.2.2.2.1.2.2::(b3 T85 (g4 T85 b1.1 ((thread.toNat*8)+3) ((b7 T85 b1.1 ((thread.toNat*8)+3))+1))++(b3 T86 b1.2.1++(.ii b1.2.2::[]))))))))))),(4,.box 88 (.cv (.slice none 0 0)::(.cv (.slice none 0 0)::(.cv (.slice none 0 0)::(b3 T80 (Ty.dflt T80)++(.ii 0::(.ii 0::(.ii 0::(b3 T85 (Ty.dflt T85)++(b3 T86 (Ty.dflt T86)++(.ii 0::[]))))))))))),(9,.box 74 [.ii ((r0.1.1.getD (b7 T86 b1.2.1 (((b7 T85 b1.1 ((thread.toNat*8)+2)).toNat*6)+2)).toNat []).getD (b7 T85 b1.1 ((thread.toNat*8)+3)).toNat (0,0,0,0)).1,.ii ((r0.1.1.getD (b7 T86 b1.2.1 (((b7 T85 b1.1 ((thread.toNat*8)+2)).toNat*6)+2)).toNat []).getD (b7 T85 b1.1 ((thread.toNat*8)+3)).toNat (0,0,0,0)).2.1,.ii ((r0.1.1.getD (b7 T86 b1.2.1 (((b7 T85 b1.1 ((thread.toNat*8)+2)).toNat*6)+2)).toNat []).getD (b7 T85 b1.1 ((thread.toNat*8)+3)).toNat (0,0,0,0)).2.2.1,.ii ((r0.1.1.getD (b7 T86 b1.2.1 (((b7 T85 b1.1 ((thread.toNat*8)+2)).toNat*6)+2)).toNat []).getD (b7 T85 b1.1 ((thread.toNat*8)+3)).toNat (0,0,0,0)).2.2.2]),(20,.arr 3 .i ((r0.2.1.take r0.2.1.length)++[thread]))] ?_ (h:=by (simp only [go_sem,c4,hx10,c14,c19,c22,hx26,c27,c30])<;>(with_reducible and_intros)<;>first|assumption|rfl|omega|(unfold maxLen; omega))
           refine AW.seq ?_
           refine zo ?_
           refine zB [(2,.bp 2 0),(4,.bp 4 0),(5,.ii (r0.2.1.length:Int)),(6,.bp 2 (30+thread.toNat*8)),(8,.bp 2 (46+(b7 T85 b1.1 ((thread.toNat*8)+2)).toNat*6)),(9,.bp 9 0),(108,.bool (decide (((r0.1.1.getD (b7 T86 b1.2.1 (((b7 T85 b1.1 ((thread.toNat*8)+2)).toNat*6)+2)).toNat []).getD (b7 T85 b1.1 ((thread.toNat*8)+3)).toNat (0,0,0,0)).1=7)))] [(2,.box 88 (.sl (.sl Y4) r0.1.1::(.sl (.sl .i) r0.1.2::(.own 20::(b3 T80 (E5 T80 (.pair .i .i) r0.2.2.1 (r0.2.1.length*2) ((b7 T85 b1.1 ((thread.toNat*8)+2)),(b7 T85 b1.1 ((thread.toNat*8)+3))))++(.ii r0.2.2.2.1.1::(.ii r0.2.2.2.1.2.1::(.ii r0.2.2.2.1.2.2::(b3 T85 (g4 T85 b1.1 ((thread.toNat*8)+3) ((b7 T85 b1.1 ((thread.toNat*8)+3))+1))++(b3 T86 b1.2.1++(.ii b1.2.2::[]))))))))))),(4,.box 88 (.cv (.slice none 0 0)::(.cv (.slice none 0 0)::(.cv (.slice none 0 0)::(b3 T80 (Ty.dflt T80)++(.ii 0::(.ii 0::(.ii 0::(b3 T85 (Ty.dflt T85)++(b3 T86 (Ty.dflt T86)++(.ii 0::[]))))))))))),(9,.box 74 [.ii ((r0.1.1.getD (b7 T86 b1.2.1 (((b7 T85 b1.1 ((thread.toNat*8)+2)).toNat*6)+2)).toNat []).getD (b7 T85 b1.1 ((thread.toNat*8)+3)).toNat (0,0,0,0)).1,.ii ((r0.1.1.getD (b7 T86 b1.2.1 (((b7 T85 b1.1 ((thread.toNat*8)+2)).toNat*6)+2)).toNat []).getD (b7 T85 b1.1 ((thread.toNat*8)+3)).toNat (0,0,0,0)).2.1,.ii ((r0.1.1.getD (b7 T86 b1.2.1 (((b7 T85 b1.1 ((thread.toNat*8)+2)).toNat*6)+2)).toNat []).getD (b7 T85 b1.1 ((thread.toNat*8)+3)).toNat (0,0,0,0)).2.2.1,.ii ((r0.1.1.getD (b7 T86 b1.2.1 (((b7 T85 b1.1 ((thread.toNat*8)+2)).toNat*6)+2)).toNat []).getD (b7 T85 b1.1 ((thread.toNat*8)+3)).toNat (0,0,0,0)).2.2.2]),(20,.arr 3 .i ((r0.2.1.take r0.2.1.length)++[thread]))] ?_ (h:=by (simp only [go_sem,c4,hx10,c14,c19,c22,hx26,c27,c30])<;>(with_reducible and_intros)<;>first|assumption|rfl|omega|(unfold maxLen; omega))
           refine zQ h (fun hb32 h=>?_) (fun hb32 h=>?_)
           ·refine AW.seq ?_
            refine AW.draw r4 p5 [(14,[2]),(17,[2])] [(1,[2]),(9,[]),(10,[]),(11,[]),(100014,[]),(100017,[])] (by decide) (v9 (by kernel_rfl)) ?_
            as_aux_lemma =>
             refine f8 6 (fun K' hK33=>?_)
             try dsimp only [y1,y2,y3,y4]
             simp only [go_sem,c4,hx10,c14,c19,c22,hx26,c27,c30,hb32]
             repeat with_reducible refine zN ?_
             refine hK33 _ ?_
             as_aux_lemma =>
              obtain ⟨c35,h⟩:=b5.1 h
              obtain ⟨c36,h⟩:=b5.1 h
              obtain ⟨c37,h⟩:=b5.1 h
              have hx38:(((thread.toNat*8)+4)+((r0.1.1.getD (b7 T86 b1.2.1 (((b7 T85 b1.1 ((thread.toNat*8)+2)).toNat*6)+2)).toNat []).getD (b7 T85 b1.1 ((thread.toNat*8)+3)).toNat (0,0,0,0)).2.1.toNat*1)<16:=o8 c37
              obtain ⟨c39,h⟩:=b5.1 h
              obtain ⟨c40,h⟩:=b5.1 h
              refine f8 6 (fun K' hK34=>?_)
              try dsimp only [y1,y2,y3,y4]
              simp only [go_sem,c4,hx10,c14,c19,c22,hx26,c27,c30,hb32,c37]
              repeat with_reducible refine zN ?_
              refine hK34 _ ?_
              as_aux_lemma =>
               have hx42:(((b7 T85 b1.1 ((thread.toNat*8)+2)).toNat*6)+3)<36:=by omega
               have hx43:(((b7 T85 b1.1 ((thread.toNat*8)+2)).toNat*6)+5)<36:=by omega
               refine f8 6 (fun K' hK41=>?_)
               try dsimp only [y1,y2,y3,y4]
               simp only [go_sem,c4,hx10,c14,c19,c22,hx26,c27,c30,hb32,c37,hx42,hx43]
               repeat with_reducible refine zN ?_
               refine hK41 _ ?_
               refine j8 ?_
               refine g5 ?_
               refine zV [(2,.bp 2 0),(4,.bp 4 0),(6,.bp 2 (30+thread.toNat*8))] [(2,.box 88 (.sl (.sl Y4) r0.1.1::(.sl (.sl .i) r0.1.2::(.own 20::(b3 T80 (E5 T80 (.pair .i .i) r0.2.2.1 (r0.2.1.length*2) ((b7 T85 b1.1 ((thread.toNat*8)+2)),(b7 T85 b1.1 ((thread.toNat*8)+3))))++(.ii r0.2.2.2.1.1::(.ii r0.2.2.2.1.2.1::(.ii r0.2.2.2.1.2.2::(b3 T85 (g4 T85 b1.1 ((thread.toNat*8)+3) ((b7 T85 b1.1 ((thread.toNat*8)+3))+1))++(b3 T86 (g4 T86 (g4 T86 b1.2.1 (((b7 T85 b1.1 ((thread.toNat*8)+2)).toNat*6)+3) (b7 T85 (g4 T85 b1.1 ((thread.toNat*8)+3) ((b7 T85 b1.1 ((thread.toNat*8)+3))+1)) (((thread.toNat*8)+4)+((r0.1.1.getD (b7 T86 b1.2.1 (((b7 T85 b1.1 ((thread.toNat*8)+2)).toNat*6)+2)).toNat []).getD (b7 T85 b1.1 ((thread.toNat*8)+3)).toNat (0,0,0,0)).2.1.toNat*1))) (((b7 T85 b1.1 ((thread.toNat*8)+2)).toNat*6)+5) ((2*(r0.2.1.length:Int))+2))++(.ii b1.2.2::[]))))))))))),(4,.box 88 (.cv (.slice none 0 0)::(.cv (.slice none 0 0)::(.cv (.slice none 0 0)::(b3 T80 (Ty.dflt T80)++(.ii 0::(.ii 0::(.ii 0::(b3 T85 (Ty.dflt T85)++(b3 T86 (Ty.dflt T86)++(.ii 0::[]))))))))))),(20,.arr 3 .i ((r0.2.1.take r0.2.1.length)++[thread]))] gt ?_
               as_aux_lemma =>
                refine zo ?_
                obtain ⟨c44,h⟩:=b5.1 h
                have hx45:((thread.toNat*8)+1)<16:=o8 c44
                refine zB [(2,.bp 2 0),(4,.bp 4 0),(6,.bp 2 (30+thread.toNat*8))] [(2,.box 88 (.sl (.sl Y4) r0.1.1::(.sl (.sl .i) r0.1.2::(.own 20::(b3 T80 (E5 T80 (.pair .i .i) r0.2.2.1 (r0.2.1.length*2) ((b7 T85 b1.1 ((thread.toNat*8)+2)),(b7 T85 b1.1 ((thread.toNat*8)+3))))++(.ii r0.2.2.2.1.1::(.ii r0.2.2.2.1.2.1::(.ii r0.2.2.2.1.2.2::(b3 T85 (q7 T85 (g4 T85 b1.1 ((thread.toNat*8)+3) ((b7 T85 b1.1 ((thread.toNat*8)+3))+1)) ((thread.toNat*8)+1) false)++(b3 T86 (g4 T86 (g4 T86 b1.2.1 (((b7 T85 b1.1 ((thread.toNat*8)+2)).toNat*6)+3) (b7 T85 (g4 T85 b1.1 ((thread.toNat*8)+3) ((b7 T85 b1.1 ((thread.toNat*8)+3))+1)) (((thread.toNat*8)+4)+((r0.1.1.getD (b7 T86 b1.2.1 (((b7 T85 b1.1 ((thread.toNat*8)+2)).toNat*6)+2)).toNat []).getD (b7 T85 b1.1 ((thread.toNat*8)+3)).toNat (0,0,0,0)).2.1.toNat*1))) (((b7 T85 b1.1 ((thread.toNat*8)+2)).toNat*6)+5) ((2*(r0.2.1.length:Int))+2))++(.ii b1.2.2::[]))))))))))),(4,.box 88 (.cv (.slice none 0 0)::(.cv (.slice none 0 0)::(.cv (.slice none 0 0)::(b3 T80 (Ty.dflt T80)++(.ii 0::(.ii 0::(.ii 0::(b3 T85 (Ty.dflt T85)++(b3 T86 (Ty.dflt T86)++(.ii 0::[]))))))))))),(20,.arr 3 .i ((r0.2.1.take r0.2.1.length)++[thread]))] ?_ (h:=by (simp only [go_sem,c4,hx10,c14,c19,c22,hx26,c27,c30,hb32,c37,hx42,hx43,c44])<;>(with_reducible and_intros)<;>first|assumption|rfl|omega|(unfold maxLen; omega))
                refine AW.ops ?_
                obtain ⟨c46,h⟩:=b5.1 h
                have hx47:(thread.toNat*8)<16:=o8 c46
                obtain ⟨c48,h⟩:=b5.1 h
                refine zS 5 [(2,.bp 2 0),(4,.bp 4 0),(128,.bp 2 (30+thread.toNat*8)),(132,.ii ((b7 T85 (q7 T85 (g4 T85 b1.1 ((thread.toNat*8)+3) ((b7 T85 b1.1 ((thread.toNat*8)+3))+1)) ((thread.toNat*8)+1) false) (thread.toNat*8))+1))] [(2,.box 88 (.sl (.sl Y4) r0.1.1::(.sl (.sl .i) r0.1.2::(.own 20::(b3 T80 (E5 T80 (.pair .i .i) r0.2.2.1 (r0.2.1.length*2) ((b7 T85 b1.1 ((thread.toNat*8)+2)),(b7 T85 b1.1 ((thread.toNat*8)+3))))++(.ii r0.2.2.2.1.1::(.ii r0.2.2.2.1.2.1::(.ii r0.2.2.2.1.2.2::(b3 T85 (q7 T85 (g4 T85 b1.1 ((thread.toNat*8)+3) ((b7 T85 b1.1 ((thread.toNat*8)+3))+1)) ((thread.toNat*8)+1) false)++(b3 T86 (g4 T86 (g4 T86 b1.2.1 (((b7 T85 b1.1 ((thread.toNat*8)+2)).toNat*6)+3) (b7 T85 (g4 T85 b1.1 ((thread.toNat*8)+3) ((b7 T85 b1.1 ((thread.toNat*8)+3))+1)) (((thread.toNat*8)+4)+((r0.1.1.getD (b7 T86 b1.2.1 (((b7 T85 b1.1 ((thread.toNat*8)+2)).toNat*6)+2)).toNat []).getD (b7 T85 b1.1 ((thread.toNat*8)+3)).toNat (0,0,0,0)).2.1.toNat*1))) (((b7 T85 b1.1 ((thread.toNat*8)+2)).toNat*6)+5) ((2*(r0.2.1.length:Int))+2))++(.ii b1.2.2::[]))))))))))),(4,.box 88 (.cv (.slice none 0 0)::(.cv (.slice none 0 0)::(.cv (.slice none 0 0)::(b3 T80 (Ty.dflt T80)++(.ii 0::(.ii 0::(.ii 0::(b3 T85 (Ty.dflt T85)++(b3 T86 (Ty.dflt T86)++(.ii 0::[]))))))))))),(20,.arr 3 .i ((r0.2.1.take r0.2.1.length)++[thread]))] ?_ (h:=by (simp only [go_sem,c4,hx10,c14,c19,c22,hx26,c27,c30,hb32,c37,hx42,hx43,c44,c46])<;>(with_reducible and_intros)<;>first|assumption|rfl|omega|(unfold maxLen; omega))
                obtain ⟨c49,h⟩:=b5.1 h
                have hx50:(thread.toNat*8)<16:=o8 c49
                refine zB [(2,.bp 2 0),(4,.bp 4 0)] [(2,.box 88 (.sl (.sl Y4) r0.1.1::(.sl (.sl .i) r0.1.2::(.own 20::(b3 T80 (E5 T80 (.pair .i .i) r0.2.2.1 (r0.2.1.length*2) ((b7 T85 b1.1 ((thread.toNat*8)+2)),(b7 T85 b1.1 ((thread.toNat*8)+3))))++(.ii r0.2.2.2.1.1::(.ii r0.2.2.2.1.2.1::(.ii r0.2.2.2.1.2.2::(b3 T85 (g4 T85 (q7 T85 (g4 T85 b1.1 ((thread.toNat*8)+3) ((b7 T85 b1.1 ((thread.toNat*8)+3))+1)) ((thread.toNat*8)+1) false) (thread.toNat*8) ((b7 T85 (q7 T85 (g4 T85 b1.1 ((thread.toNat*8)+3) ((b7 T85 b1.1 ((thread.toNat*8)+3))+1)) ((thread.toNat*8)+1) false) (thread.toNat*8))+1))++(b3 T86 (g4 T86 (g4 T86 b1.2.1 (((b7 T85 b1.1 ((thread.toNat*8)+2)).toNat*6)+3) (b7 T85 (g4 T85 b1.1 ((thread.toNat*8)+3) ((b7 T85 b1.1 ((thread.toNat*8)+3))+1)) (((thread.toNat*8)+4)+((r0.1.1.getD (b7 T86 b1.2.1 (((b7 T85 b1.1 ((thread.toNat*8)+2)).toNat*6)+2)).toNat []).getD (b7 T85 b1.1 ((thread.toNat*8)+3)).toNat (0,0,0,0)).2.1.toNat*1))) (((b7 T85 b1.1 ((thread.toNat*8)+2)).toNat*6)+5) ((2*(r0.2.1.length:Int))+2))++(.ii b1.2.2::[]))))))))))),(4,.box 88 (.cv (.slice none 0 0)::(.cv (.slice none 0 0)::(.cv (.slice none 0 0)::(b3 T80 (Ty.dflt T80)++(.ii 0::(.ii 0::(.ii 0::(b3 T85 (Ty.dflt T85)++(b3 T86 (Ty.dflt T86)++(.ii 0::[]))))))))))),(20,.arr 3 .i ((r0.2.1.take r0.2.1.length)++[thread]))] ?_ (h:=by (simp only [go_sem,c4,hx10,c14,c19,c22,hx26,c27,c30,hb32,c37,hx42,hx43,c44,c46,c49])<;>(with_reducible and_intros)<;>first|assumption|rfl|omega|(unfold maxLen; omega))
                refine zo ?_
                refine zB [(4,.bp 4 0)] [(4,.box 88 (.sl (.sl Y4) r0.1.1::(.sl (.sl .i) r0.1.2::(.own 20::(b3 T80 (E5 T80 (.pair .i .i) r0.2.2.1 (r0.2.1.length*2) ((b7 T85 b1.1 ((thread.toNat*8)+2)),(b7 T85 b1.1 ((thread.toNat*8)+3))))++(.ii r0.2.2.2.1.1::(.ii r0.2.2.2.1.2.1::(.ii r0.2.2.2.1.2.2::(b3 T85 (g4 T85 (q7 T85 (g4 T85 b1.1 ((thread.toNat*8)+3) ((b7 T85 b1.1 ((thread.toNat*8)+3))+1)) ((thread.toNat*8)+1) false) (thread.toNat*8) ((b7 T85 (q7 T85 (g4 T85 b1.1 ((thread.toNat*8)+3) ((b7 T85 b1.1 ((thread.toNat*8)+3))+1)) ((thread.toNat*8)+1) false) (thread.toNat*8))+1))++(b3 T86 (g4 T86 (g4 T86 b1.2.1 (((b7 T85 b1.1 ((thread.toNat*8)+2)).toNat*6)+3) (b7 T85 (g4 T85 b1.1 ((thread.toNat*8)+3) ((b7 T85 b1.1 ((thread.toNat*8)+3))+1)) (((thread.toNat*8)+4)+((r0.1.1.getD (b7 T86 b1.2.1 (((b7 T85 b1.1 ((thread.toNat*8)+2)).toNat*6)+2)).toNat []).getD (b7 T85 b1.1 ((thread.toNat*8)+3)).toNat (0,0,0,0)).2.1.toNat*1))) (((b7 T85 b1.1 ((thread.toNat*8)+2)).toNat*6)+5) ((2*(r0.2.1.length:Int))+2))++(.ii b1.2.2::[]))))))))))),(20,.arr 3 .i ((r0.2.1.take r0.2.1.length)++[thread]))] ?_ (h:=by (simp only [go_sem,c4,hx10,c14,c19,c22,hx26,c27,c30,hb32,c37,hx42,hx43,c44,c46,c49])<;>(with_reducible and_intros)<;>first|assumption|rfl|omega|(unfold maxLen; omega))
                refine AW.ret ?_
                obtain rfl:=zj h
                exact zR [] [] [(2000,20)]
           refine AW.ops ?_
           refine zS 3 [(2,.bp 2 0),(4,.bp 4 0),(135,.bp 2 (30+thread.toNat*8)),(136,.agg [.ii ((r0.1.1.getD (b7 T86 b1.2.1 (((b7 T85 b1.1 ((thread.toNat*8)+2)).toNat*6)+2)).toNat []).getD (b7 T85 b1.1 ((thread.toNat*8)+3)).toNat (0,0,0,0)).1,.ii ((r0.1.1.getD (b7 T86 b1.2.1 (((b7 T85 b1.1 ((thread.toNat*8)+2)).toNat*6)+2)).toNat []).getD (b7 T85 b1.1 ((thread.toNat*8)+3)).toNat (0,0,0,0)).2.1,.ii ((r0.1.1.getD (b7 T86 b1.2.1 (((b7 T85 b1.1 ((thread.toNat*8)+2)).toNat*6)+2)).toNat []).getD (b7 T85 b1.1 ((thread.toNat*8)+3)).toNat (0,0,0,0)).2.2.1,.ii ((r0.1.1.getD (b7 T86 b1.2.1 (((b7 T85 b1.1 ((thread.toNat*8)+2)).toNat*6)+2)).toNat []).getD (b7 T85 b1.1 ((thread.toNat*8)+3)).toNat (0,0,0,0)).2.2.2]),(137,.bp 2 27)] [(2,.box 88 (.sl (.sl Y4) r0.1.1::(.sl (.sl .i) r0.1.2::(.own 20::(b3 T80 (E5 T80 (.pair .i .i) r0.2.2.1 (r0.2.1.length*2) ((b7 T85 b1.1 ((thread.toNat*8)+2)),(b7 T85 b1.1 ((thread.toNat*8)+3))))++(.ii r0.2.2.2.1.1::(.ii r0.2.2.2.1.2.1::(.ii r0.2.2.2.1.2.2::(b3 T85 (g4 T85 b1.1 ((thread.toNat*8)+3) ((b7 T85 b1.1 ((thread.toNat*8)+3))+1))++(b3 T86 b1.2.1++(.ii b1.2.2::[]))))))))))),(4,.box 88 (.cv (.slice none 0 0)::(.cv (.slice none 0 0)::(.cv (.slice none 0 0)::(b3 T80 (Ty.dflt T80)++(.ii 0::(.ii 0::(.ii 0::(b3 T85 (Ty.dflt T85)++(b3 T86 (Ty.dflt T86)++(.ii 0::[]))))))))))),(20,.arr 3 .i ((r0.2.1.take r0.2.1.length)++[thread]))] ?_ (h:=by (simp only [go_sem,c4,hx10,c14,c19,c22,hx26,c27,c30,hb32])<;>(with_reducible and_intros)<;>first|assumption|rfl|omega|(unfold maxLen; omega))
           obtain ⟨v0,hv51,h⟩:=zw h
           refine zC [] [(1000,2),(1001,20)] (a47 (thread.toNat*8) ((r0.1.1.getD (b7 T86 b1.2.1 (((b7 T85 b1.1 ((thread.toNat*8)+2)).toNat*6)+2)).toNat []).getD (b7 T85 b1.1 ((thread.toNat*8)+3)).toNat (0,0,0,0)) r0.1.1 r0.1.2 (E5 T80 (.pair .i .i) r0.2.2.1 (r0.2.1.length*2) ((b7 T85 b1.1 ((thread.toNat*8)+2)),(b7 T85 b1.1 ((thread.toNat*8)+3)))) r0.2.2.2.1.1 r0.2.2.2.1.2.1 r0.2.2.2.1.2.2 (g4 T85 b1.1 ((thread.toNat*8)+3) ((b7 T85 b1.1 ((thread.toNat*8)+3))+1)) b1.2.1 b1.2.2 ((r0.2.1.take r0.2.1.length)++[thread]) hv51) [(2,.bp 2 0),(4,.bp 4 0)] [(2,.box 88 (.sl (.sl Y4) r0.1.1::(.sl (.sl .i) r0.1.2::(.own 20::(b3 T80 (E5 T80 (.pair .i .i) r0.2.2.1 (r0.2.1.length*2) ((b7 T85 b1.1 ((thread.toNat*8)+2)),(b7 T85 b1.1 ((thread.toNat*8)+3))))++(.ii v0.1::(.ii v0.2.1::(.ii v0.2.2.1::(b3 T85 v0.2.2.2++(b3 T86 b1.2.1++(.ii b1.2.2::[]))))))))))),(4,.box 88 (.cv (.slice none 0 0)::(.cv (.slice none 0 0)::(.cv (.slice none 0 0)::(b3 T80 (Ty.dflt T80)++(.ii 0::(.ii 0::(.ii 0::(b3 T85 (Ty.dflt T85)++(b3 T86 (Ty.dflt T86)++(.ii 0::[]))))))))))),(20,.arr 3 .i ((r0.2.1.take r0.2.1.length)++[thread]))] ?_
           refine zB [(2,.bp 2 0),(4,.bp 4 0)] [(2,.box 88 (.sl (.sl Y4) r0.1.1::(.sl (.sl .i) r0.1.2::(.own 20::(b3 T80 (E5 T80 (.pair .i .i) r0.2.2.1 (r0.2.1.length*2) ((b7 T85 b1.1 ((thread.toNat*8)+2)),(b7 T85 b1.1 ((thread.toNat*8)+3))))++(.ii v0.1::(.ii v0.2.1::(.ii v0.2.2.1::(b3 T85 v0.2.2.2++(b3 T86 b1.2.1++(.ii b1.2.2::[]))))))))))),(4,.box 88 (.cv (.slice none 0 0)::(.cv (.slice none 0 0)::(.cv (.slice none 0 0)::(b3 T80 (Ty.dflt T80)++(.ii 0::(.ii 0::(.ii 0::(b3 T85 (Ty.dflt T85)++(b3 T86 (Ty.dflt T86)++(.ii 0::[]))))))))))),(20,.arr 3 .i ((r0.2.1.take r0.2.1.length)++[thread]))] ?_ (h:=by (simp only [go_sem,c4,hx10,c14,c19,c22,hx26,c27,c30,hb32])<;>(with_reducible and_intros)<;>first|assumption|rfl|omega|(unfold maxLen; omega))
           refine zo ?_
           refine zB [(4,.bp 4 0)] [(4,.box 88 (.sl (.sl Y4) r0.1.1::(.sl (.sl .i) r0.1.2::(.own 20::(b3 T80 (E5 T80 (.pair .i .i) r0.2.2.1 (r0.2.1.length*2) ((b7 T85 b1.1 ((thread.toNat*8)+2)),(b7 T85 b1.1 ((thread.toNat*8)+3))))++(.ii v0.1::(.ii v0.2.1::(.ii v0.2.2.1::(b3 T85 v0.2.2.2++(b3 T86 b1.2.1++(.ii b1.2.2::[]))))))))))),(20,.arr 3 .i ((r0.2.1.take r0.2.1.length)++[thread]))] ?_ (h:=by (simp only [go_sem,c4,hx10,c14,c19,c22,hx26,c27,c30,hb32])<;>(with_reducible and_intros)<;>first|assumption|rfl|omega|(unfold maxLen; omega))
           refine AW.ret ?_
           obtain rfl:=zj h
           exact zR [] [] [(2000,20)]
 refine AW.seq ?_
 refine zo ?_
 obtain ⟨c52,h⟩:=b5.1 h
 have hx53:((thread.toNat*8)+1)<16:=o8 c52
 refine zB [(1,.ii thread),(2,.bp 2 0),(4,.bp 4 0),(5,.ii (r0.2.1.length:Int)),(6,.bp 2 (30+thread.toNat*8)),(29,.bool (!(n6 T85 r0.2.2.2.2.1 ((thread.toNat*8)+1))))] [(2,.box 88 (.sl (.sl Y4) r0.1.1::(.sl (.sl .i) r0.1.2::(.own 20::(b3 T80 r0.2.2.1++(.ii r0.2.2.2.1.1::(.ii r0.2.2.2.1.2.1::(.ii r0.2.2.2.1.2.2::(b3 T85 r0.2.2.2.2.1++(b3 T86 r0.2.2.2.2.2.1++(.ii r0.2.2.2.2.2.2::[]))))))))))),(4,.box 88 (.cv (.slice none 0 0)::(.cv (.slice none 0 0)::(.cv (.slice none 0 0)::(b3 T80 (Ty.dflt T80)++(.ii 0::(.ii 0::(.ii 0::(b3 T85 (Ty.dflt T85)++(b3 T86 (Ty.dflt T86)++(.ii 0::[]))))))))))),(20,.arr 3 .i ((r0.2.1.take r0.2.1.length)++[thread]))] ?_ (h:=by (simp only [go_sem,c52])<;>(with_reducible and_intros)<;>first|assumption|rfl|omega|(unfold maxLen; omega))
 refine zQ h (fun hb54 h=>?_) (fun hb54 h=>?_)
 ·refine AW.seq ?_
  refine AW.draw r4 p5 [] [] (by decide) (v9 (by kernel_rfl)) ?_
  as_aux_lemma =>
   obtain ⟨c56,h⟩:=b5.1 h
   obtain ⟨c57,h⟩:=b5.1 h
   refine f8 6 (fun K' hK55=>?_)
   try dsimp only [y1,y2,y3,y4]
   simp only [go_sem,c52,hb54]
   repeat with_reducible refine zN ?_
   refine hK55 _ ?_
   as_aux_lemma =>
    obtain ⟨c59,h⟩:=b5.1 h
    have hx60:(thread.toNat*8)<16:=o8 c59
    obtain ⟨c61,h⟩:=b5.1 h
    obtain ⟨c62,h⟩:=b5.1 h
    refine f8 6 (fun K' hK58=>?_)
    try dsimp only [y1,y2,y3,y4]
    simp only [go_sem,c52,hb54,c59]
    repeat with_reducible refine zN ?_
    refine hK58 _ ?_
    as_aux_lemma =>
     refine f8 1 (fun K' hK63=>?_)
     try dsimp only [y1,y2,y3,y4]
     simp only [go_sem,c52,hb54,c59]
     repeat with_reducible refine zN ?_
     refine hK63 _ ?_
     refine j8 ?_
     refine g5 ?_
     refine zV [(1,.ii thread),(2,.bp 2 0),(4,.bp 4 0),(5,.ii (r0.2.1.length:Int)),(6,.bp 2 (30+thread.toNat*8)),(7,.ii ((r0.1.2.getD thread.toNat []).getD (b7 T85 r0.2.2.2.2.1 (thread.toNat*8)).toNat 0))] [(2,.box 88 (.sl (.sl Y4) r0.1.1::(.sl (.sl .i) r0.1.2::(.own 20::(b3 T80 r0.2.2.1++(.ii r0.2.2.2.1.1::(.ii r0.2.2.2.1.2.1::(.ii r0.2.2.2.1.2.2::(b3 T85 r0.2.2.2.2.1++(b3 T86 r0.2.2.2.2.2.1++(.ii r0.2.2.2.2.2.2::[]))))))))))),(4,.box 88 (.cv (.slice none 0 0)::(.cv (.slice none 0 0)::(.cv (.slice none 0 0)::(b3 T80 (Ty.dflt T80)++(.ii 0::(.ii 0::(.ii 0::(b3 T85 (Ty.dflt T85)++(b3 T86 (Ty.dflt T86)++(.ii 0::[]))))))))))),(20,.arr 3 .i ((r0.2.1.take r0.2.1.length)++[thread]))] gt ?_
     as_aux_lemma =>
      refine zo ?_
      refine zS 5 [(2,.bp 2 0),(4,.bp 4 0),(5,.ii (r0.2.1.length:Int)),(6,.bp 2 (30+thread.toNat*8)),(43,.ii r0.2.2.2.2.2.2),(44,.ii thread),(45,.ii ((r0.1.2.getD thread.toNat []).getD (b7 T85 r0.2.2.2.2.1 (thread.toNat*8)).toNat 0)),(46,.ii (r0.2.1.length:Int))] [(2,.box 88 (.sl (.sl Y4) r0.1.1::(.sl (.sl .i) r0.1.2::(.own 20::(b3 T80 r0.2.2.1++(.ii r0.2.2.2.1.1::(.ii r0.2.2.2.1.2.1::(.ii r0.2.2.2.1.2.2::(b3 T85 r0.2.2.2.2.1++(b3 T86 r0.2.2.2.2.2.1++(.ii r0.2.2.2.2.2.2::[]))))))))))),(4,.box 88 (.cv (.slice none 0 0)::(.cv (.slice none 0 0)::(.cv (.slice none 0 0)::(b3 T80 (Ty.dflt T80)++(.ii 0::(.ii 0::(.ii 0::(b3 T85 (Ty.dflt T85)++(b3 T86 (Ty.dflt T86)++(.ii 0::[]))))))))))),(20,.arr 3 .i ((r0.2.1.take r0.2.1.length)++[thread]))] ?_ (h:=by (simp only [go_sem,c52,hb54,c59])<;>(with_reducible and_intros)<;>first|assumption|rfl|omega|(unfold maxLen; omega))
      obtain ⟨c64,h⟩:=b5.1 h
      obtain ⟨c65,h⟩:=b5.1 h
      obtain ⟨c66,h⟩:=b5.1 h
      obtain ⟨c67,h⟩:=b5.1 h
      refine zS 5 [(2,.bp 2 0),(4,.bp 4 0),(5,.ii (r0.2.1.length:Int)),(6,.bp 2 (30+thread.toNat*8)),(49,.agg [.ii thread,.ii 0,.ii ((r0.1.2.getD thread.toNat []).getD (b7 T85 r0.2.2.2.2.1 (thread.toNat*8)).toNat 0),.ii 0,.ii ((2*(r0.2.1.length:Int))+1),.ii 0]),(51,.bp 2 (46+r0.2.2.2.2.2.2.toNat*6))] [(2,.box 88 (.sl (.sl Y4) r0.1.1::(.sl (.sl .i) r0.1.2::(.own 20::(b3 T80 r0.2.2.1++(.ii r0.2.2.2.1.1::(.ii r0.2.2.2.1.2.1::(.ii r0.2.2.2.1.2.2::(b3 T85 r0.2.2.2.2.1++(b3 T86 r0.2.2.2.2.2.1++(.ii r0.2.2.2.2.2.2::[]))))))))))),(4,.box 88 (.cv (.slice none 0 0)::(.cv (.slice none 0 0)::(.cv (.slice none 0 0)::(b3 T80 (Ty.dflt T80)++(.ii 0::(.ii 0::(.ii 0::(b3 T85 (Ty.dflt T85)++(b3 T86 (Ty.dflt T86)++(.ii 0::[]))))))))))),(20,.arr 3 .i ((r0.2.1.take r0.2.1.length)++[thread]))] ?_ (h:=by (simp only [go_sem,c52,hb54,c59])<;>(with_reducible and_intros)<;>first|assumption|rfl|omega|(unfold maxLen; omega))
      have hx68:((r0.2.2.2.2.2.2.toNat*6)+6)≤36:=by omega
      refine zB [(2,.bp 2 0),(4,.bp 4 0),(5,.ii (r0.2.1.length:Int)),(6,.bp 2 (30+thread.toNat*8))] [(2,.box 88 (.sl (.sl Y4) r0.1.1::(.sl (.sl .i) r0.1.2::(.own 20::(b3 T80 r0.2.2.1++(.ii r0.2.2.2.1.1::(.ii r0.2.2.2.1.2.1::(.ii r0.2.2.2.1.2.2::(b3 T85 r0.2.2.2.2.1++(b3 T86 (E5 T86 Y0 r0.2.2.2.2.2.1 (r0.2.2.2.2.2.2.toNat*6) (thread,0,((r0.1.2.getD thread.toNat []).getD (b7 T85 r0.2.2.2.2.1 (thread.toNat*8)).toNat 0),0,((2*(r0.2.1.length:Int))+1),0))++(.ii r0.2.2.2.2.2.2::[]))))))))))),(4,.box 88 (.cv (.slice none 0 0)::(.cv (.slice none 0 0)::(.cv (.slice none 0 0)::(b3 T80 (Ty.dflt T80)++(.ii 0::(.ii 0::(.ii 0::(b3 T85 (Ty.dflt T85)++(b3 T86 (Ty.dflt T86)++(.ii 0::[]))))))))))),(20,.arr 3 .i ((r0.2.1.take r0.2.1.length)++[thread]))] ?_ (h:=by (simp only [go_sem,c52,hb54,c59,hx68])<;>(with_reducible and_intros)<;>first|assumption|rfl|omega|(unfold maxLen; omega))
      refine AW.seq ?_
      refine AW.draw r4 p5 [(10,[2])] [] (by decide) (v9 (by kernel_rfl)) ?_
      as_aux_lemma =>
       obtain ⟨c70,h⟩:=b5.1 h
       have hx71:(thread.toNat*8)<16:=o8 c70
       refine f8 6 (fun K' hK69=>?_)
       try dsimp only [y1,y2,y3,y4]
       simp only [go_sem,c52,hb54,c59,hx68,c70]
       repeat with_reducible refine zN ?_
       refine hK69 _ ?_
       as_aux_lemma =>
        obtain ⟨c73,h⟩:=b5.1 h
        have hx74:(thread.toNat*8)+8≤16:=a4t _ (by decide) c73
        refine f8 5 (fun K' hK72=>?_)
        try dsimp only [y1,y2,y3,y4]
        simp only [go_sem,c52,hb54,c59,hx68,c70,c73]
        repeat with_reducible refine zN ?_
        refine hK72 _ ?_
        refine j8 ?_
        refine g5 ?_
        refine zV [(2,.bp 2 0),(4,.bp 4 0),(5,.ii (r0.2.1.length:Int)),(6,.bp 2 (30+thread.toNat*8))] [(2,.box 88 (.sl (.sl Y4) r0.1.1::(.sl (.sl .i) r0.1.2::(.own 20::(b3 T80 r0.2.2.1++(.ii r0.2.2.2.1.1::(.ii r0.2.2.2.1.2.1::(.ii r0.2.2.2.1.2.2::(b3 T85 (E5 T85 Y1 r0.2.2.2.2.1 (thread.toNat*8) ((b7 T85 r0.2.2.2.2.1 (thread.toNat*8)),true,r0.2.2.2.2.2.2,0,0,1,0,0))++(b3 T86 (E5 T86 Y0 r0.2.2.2.2.2.1 (r0.2.2.2.2.2.2.toNat*6) (thread,0,((r0.1.2.getD thread.toNat []).getD (b7 T85 r0.2.2.2.2.1 (thread.toNat*8)).toNat 0),0,((2*(r0.2.1.length:Int))+1),0))++(.ii r0.2.2.2.2.2.2::[]))))))))))),(4,.box 88 (.cv (.slice none 0 0)::(.cv (.slice none 0 0)::(.cv (.slice none 0 0)::(b3 T80 (Ty.dflt T80)++(.ii 0::(.ii 0::(.ii 0::(b3 T85 (Ty.dflt T85)++(b3 T86 (Ty.dflt T86)++(.ii 0::[]))))))))))),(20,.arr 3 .i ((r0.2.1.take r0.2.1.length)++[thread]))] gt ?_
        as_aux_lemma =>
         refine AW.ops ?_
         obtain ⟨c75,h⟩:=b5.1 h
         refine zB [(2,.bp 2 0),(4,.bp 4 0),(5,.ii (r0.2.1.length:Int)),(6,.bp 2 (30+thread.toNat*8))] [(2,.box 88 (.sl (.sl Y4) r0.1.1::(.sl (.sl .i) r0.1.2::(.own 20::(b3 T80 r0.2.2.1++(.ii r0.2.2.2.1.1::(.ii r0.2.2.2.1.2.1::(.ii r0.2.2.2.1.2.2::(b3 T85 (E5 T85 Y1 r0.2.2.2.2.1 (thread.toNat*8) ((b7 T85 r0.2.2.2.2.1 (thread.toNat*8)),true,r0.2.2.2.2.2.2,0,0,1,0,0))++(b3 T86 (E5 T86 Y0 r0.2.2.2.2.2.1 (r0.2.2.2.2.2.2.toNat*6) (thread,0,((r0.1.2.getD thread.toNat []).getD (b7 T85 r0.2.2.2.2.1 (thread.toNat*8)).toNat 0),0,((2*(r0.2.1.length:Int))+1),0))++(.ii (r0.2.2.2.2.2.2+1)::[]))))))))))),(4,.box 88 (.cv (.slice none 0 0)::(.cv (.slice none 0 0)::(.cv (.slice none 0 0)::(b3 T80 (Ty.dflt T80)++(.ii 0::(.ii 0::(.ii 0::(b3 T85 (Ty.dflt T85)++(b3 T86 (Ty.dflt T86)++(.ii 0::[]))))))))))),(20,.arr 3 .i ((r0.2.1.take r0.2.1.length)++[thread]))] ?_ (h:=by (simp only [go_sem,c52,hb54,c59,hx68,c70,c73])<;>(with_reducible and_intros)<;>first|assumption|rfl|omega|(unfold maxLen; omega))
         have hj:=hk_code_run_step_k1 _ h
         exact AW.weaken (zL [] [] []) hj
 refine zk ?_
 have hj:=hk_code_run_step_k1 _ h
 exact AW.weaken (zL [] [] []) hj
end Go.Proofs.Ytenchhmcjmjlbaa
