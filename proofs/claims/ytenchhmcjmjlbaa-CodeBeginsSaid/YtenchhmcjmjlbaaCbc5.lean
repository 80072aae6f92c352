import Derived.Test.YtenchhmcjmjlbaaCkp
import Derived.Test.YtenchhmcjmjlbaaShk
import Derived.Test.YtenchhmcjmjlbaaAvd
import Derived.Test.YtenchhmcjmjlbaaCbc4
namespace Go.Proofs.Ytenchhmcjmjlbaa
open Go.RowKit
set_option linter.unusedSimpArgs false
set_option linter.unusedVariables false
set_option linter.constructorNameAsVariable false
set_option maxRecDepth 100000
set_option maxHeartbeats 40000000
theorem hc_code_run_step (r0:((List (List (Int×Int×Int×Int)))×(List (List Int)))×(List Int)×(El T80)×(Int×Int×Int)×(El T85)×(El T86)×Int) (thread:Int) {r:(El T80)×Int×Int×Int×(El T85)×(El T86)×Int} (h:code_run_step r0 thread=some r):HC Try.prog 135 [] [.agg (.sl (.sl (.pair (.int .i64) (.pair (.int .i64) (.pair (.int .i64) (.int .i64))))) r0.1.1::(.sl (.sl (.int .i64)) r0.1.2::(.sl (.int .i64) r0.2.1::(cellsX T80 r0.2.2.1++(.int .i64 r0.2.2.2.1.1::(.int .i64 r0.2.2.2.1.2.1::(.int .i64 r0.2.2.2.1.2.2::(cellsX T85 r0.2.2.2.2.1++(cellsX T86 r0.2.2.2.2.2.1++(.int .i64 r0.2.2.2.2.2.2::[])))))))))),.int .i64 thread] [(2000,.arr 3 (.int .i64) ((r0.2.1.take r0.2.1.length)++[thread]))] (.agg (.sl (.sl (.pair (.int .i64) (.pair (.int .i64) (.pair (.int .i64) (.int .i64))))) r0.1.1::(.sl (.sl (.int .i64)) r0.1.2::(.own 2000::(cellsX T80 r.1++(.int .i64 r.2.1::(.int .i64 r.2.2.1::(.int .i64 r.2.2.2.1::(cellsX T85 r.2.2.2.2.1++(cellsX T86 r.2.2.2.2.2.1++(.int .i64 r.2.2.2.2.2.2::[]))))))))))):=by
 unfold code_run_step at h
 refine zH Try.func135 [.cell 4 88] 140 ?_
 refine zo ?_
 refine zB [(1,.int .i64 thread),(2,.bp 2 0),(4,.bp 4 0)] [(2,.box 88 (.sl (.sl (.pair (.int .i64) (.pair (.int .i64) (.pair (.int .i64) (.int .i64))))) r0.1.1::(.sl (.sl (.int .i64)) r0.1.2::(.sl (.int .i64) r0.2.1::(cellsX T80 r0.2.2.1++(.int .i64 r0.2.2.2.1.1::(.int .i64 r0.2.2.2.1.2.1::(.int .i64 r0.2.2.2.1.2.2::(cellsX T85 r0.2.2.2.2.1++(cellsX T86 r0.2.2.2.2.2.1++(.int .i64 r0.2.2.2.2.2.2::[]))))))))))),(4,.box 88 (.cv (.slice none 0 0)::(.cv (.slice none 0 0)::(.cv (.slice none 0 0)::(cellsX T80 (Ty.dflt T80)++(.int .i64 0::(.int .i64 0::(.int .i64 0::(cellsX T85 (Ty.dflt T85)++(cellsX T86 (Ty.dflt T86)++(.int .i64 0::[])))))))))))] ?_
 refine zo ?_
 refine zB [(1,.int .i64 thread),(2,.bp 2 0),(4,.bp 4 0),(5,.int .i64 (r0.2.1.length:Int))] [(2,.box 88 (.sl (.sl (.pair (.int .i64) (.pair (.int .i64) (.pair (.int .i64) (.int .i64))))) r0.1.1::(.sl (.sl (.int .i64)) r0.1.2::(.sl (.int .i64) r0.2.1::(cellsX T80 r0.2.2.1++(.int .i64 r0.2.2.2.1.1::(.int .i64 r0.2.2.2.1.2.1::(.int .i64 r0.2.2.2.1.2.2::(cellsX T85 r0.2.2.2.2.1++(cellsX T86 r0.2.2.2.2.2.1++(.int .i64 r0.2.2.2.2.2.2::[]))))))))))),(4,.box 88 (.cv (.slice none 0 0)::(.cv (.slice none 0 0)::(.cv (.slice none 0 0)::(cellsX T80 (Ty.dflt T80)++(.int .i64 0::(.int .i64 0::(.int .i64 0::(cellsX T85 (Ty.dflt T85)++(cellsX T86 (Ty.dflt T86)++(.int .i64 0::[])))))))))))] ?_
 refine zo ?_
 refine zS 4 [(1,.int .i64 thread),(2,.bp 2 0),(4,.bp 4 0),(5,.int .i64 (r0.2.1.length:Int)),(14,.sl (.int .i64) r0.2.1),(15,.int .i64 (r0.2.1.length:Int)),(16,.int .i64 (r0.2.1.length:Int))] [(2,.box 88 (.sl (.sl (.pair (.int .i64) (.pair (.int .i64) (.pair (.int .i64) (.int .i64))))) r0.1.1::(.sl (.sl (.int .i64)) r0.1.2::(.sl (.int .i64) r0.2.1::(cellsX T80 r0.2.2.1++(.int .i64 r0.2.2.2.1.1::(.int .i64 r0.2.2.2.1.2.1::(.int .i64 r0.2.2.2.1.2.2::(cellsX T85 r0.2.2.2.2.1++(cellsX T86 r0.2.2.2.2.2.1++(.int .i64 r0.2.2.2.2.2.2::[]))))))))))),(4,.box 88 (.cv (.slice none 0 0)::(.cv (.slice none 0 0)::(.cv (.slice none 0 0)::(cellsX T80 (Ty.dflt T80)++(.int .i64 0::(.int .i64 0::(.int .i64 0::(cellsX T85 (Ty.dflt T85)++(cellsX T86 (Ty.dflt T86)++(.int .i64 0::[])))))))))))] ?_
 obtain ⟨c1,h⟩:=ck_some.1 h
 refine AO.appendCut tab_ok (by decide) (by decide) (by decide) (by decide) (by decide) rfl rfl rfl rfl rfl rfl rfl rfl rfl rfl rfl rfl tab_28 rfl tab_3 rfl rfl (by first|rfl|(simp only [go_sem])<;>(with_reducible and_intros)<;>first|assumption|rfl|omega|(unfold maxLen; omega)) (by first|rfl|(simp only [go_sem])<;>(with_reducible and_intros)<;>first|assumption|rfl|omega|(unfold maxLen; omega)) (by first|rfl|(simp only [go_sem])<;>(with_reducible and_intros)<;>first|assumption|rfl|omega|(unfold maxLen; omega)) (by first|rfl|(simp only [go_sem])<;>(with_reducible and_intros)<;>first|assumption|rfl|omega|(unfold maxLen; omega)) (by first|assumption|omega|(simp only [go_sem])<;>(with_reducible and_intros)<;>first|assumption|rfl|omega|(unfold maxLen; omega)) (by first|assumption|omega|(simp only [go_sem])<;>(with_reducible and_intros)<;>first|assumption|rfl|omega|(unfold maxLen; omega)) (by first|assumption|omega|(simp only [go_sem])<;>(with_reducible and_intros)<;>first|assumption|rfl|omega|(unfold maxLen; omega)) (by decide) ?_
 refine zT [(1,.int .i64 thread),(2,.bp 2 0),(4,.bp 4 0),(5,.int .i64 (r0.2.1.length:Int)),(20,.own 20)] [(2,.box 88 (.sl (.sl (.pair (.int .i64) (.pair (.int .i64) (.pair (.int .i64) (.int .i64))))) r0.1.1::(.sl (.sl (.int .i64)) r0.1.2::(.sl (.int .i64) r0.2.1::(cellsX T80 r0.2.2.1++(.int .i64 r0.2.2.2.1.1::(.int .i64 r0.2.2.2.1.2.1::(.int .i64 r0.2.2.2.1.2.2::(cellsX T85 r0.2.2.2.2.1++(cellsX T86 r0.2.2.2.2.2.1++(.int .i64 r0.2.2.2.2.2.2::[]))))))))))),(4,.box 88 (.cv (.slice none 0 0)::(.cv (.slice none 0 0)::(.cv (.slice none 0 0)::(cellsX T80 (Ty.dflt T80)++(.int .i64 0::(.int .i64 0::(.int .i64 0::(cellsX T85 (Ty.dflt T85)++(cellsX T86 (Ty.dflt T86)++(.int .i64 0::[]))))))))))),(20,.arr 3 (.int .i64) ((r0.2.1.take r0.2.1.length)++[thread]))] gt ?_
 refine zB [(1,.int .i64 thread),(2,.bp 2 0),(4,.bp 4 0),(5,.int .i64 (r0.2.1.length:Int))] [(2,.box 88 (.sl (.sl (.pair (.int .i64) (.pair (.int .i64) (.pair (.int .i64) (.int .i64))))) r0.1.1::(.sl (.sl (.int .i64)) r0.1.2::(.own 20::(cellsX T80 r0.2.2.1++(.int .i64 r0.2.2.2.1.1::(.int .i64 r0.2.2.2.1.2.1::(.int .i64 r0.2.2.2.1.2.2::(cellsX T85 r0.2.2.2.2.1++(cellsX T86 r0.2.2.2.2.2.1++(.int .i64 r0.2.2.2.2.2.2::[]))))))))))),(4,.box 88 (.cv (.slice none 0 0)::(.cv (.slice none 0 0)::(.cv (.slice none 0 0)::(cellsX T80 (Ty.dflt T80)++(.int .i64 0::(.int .i64 0::(.int .i64 0::(cellsX T85 (Ty.dflt T85)++(cellsX T86 (Ty.dflt T86)++(.int .i64 0::[]))))))))))),(20,.arr 3 (.int .i64) ((r0.2.1.take r0.2.1.length)++[thread]))] ?_
 refine zo ?_
 obtain ⟨c2,h⟩:=ck_some.1 h
 obtain ⟨c3,h⟩:=ck_some.1 h
 refine zB [(1,.int .i64 thread),(2,.bp 2 0),(4,.bp 4 0),(5,.int .i64 (r0.2.1.length:Int)),(6,.bp 2 (30+thread.toNat*8))] [(2,.box 88 (.sl (.sl (.pair (.int .i64) (.pair (.int .i64) (.pair (.int .i64) (.int .i64))))) r0.1.1::(.sl (.sl (.int .i64)) r0.1.2::(.own 20::(cellsX T80 r0.2.2.1++(.int .i64 r0.2.2.2.1.1::(.int .i64 r0.2.2.2.1.2.1::(.int .i64 r0.2.2.2.1.2.2::(cellsX T85 r0.2.2.2.2.1++(cellsX T86 r0.2.2.2.2.2.1++(.int .i64 r0.2.2.2.2.2.2::[]))))))))))),(4,.box 88 (.cv (.slice none 0 0)::(.cv (.slice none 0 0)::(.cv (.slice none 0 0)::(cellsX T80 (Ty.dflt T80)++(.int .i64 0::(.int .i64 0::(.int .i64 0::(cellsX T85 (Ty.dflt T85)++(cellsX T86 (Ty.dflt T86)++(.int .i64 0::[]))))))))))),(20,.arr 3 (.int .i64) ((r0.2.1.take r0.2.1.length)++[thread]))] ?_
 refine AW.have1 (fun b1:(El T85)×(El T86)×Int=>code_run_step_k1 r0 thread b1=some r) (fun b1=>⟨fr [(2,.bp 2 0),(4,.bp 4 0),(5,.int .i64 (r0.2.1.length:Int)),(6,.bp 2 (30+thread.toNat*8))],hpGet [(2,.box 88 (.sl (.sl (.pair (.int .i64) (.pair (.int .i64) (.pair (.int .i64) (.int .i64))))) r0.1.1::(.sl (.sl (.int .i64)) r0.1.2::(.own 20::(cellsX T80 r0.2.2.1++(.int .i64 r0.2.2.2.1.1::(.int .i64 r0.2.2.2.1.2.1::(.int .i64 r0.2.2.2.1.2.2::(cellsX T85 b1.1++(cellsX T86 b1.2.1++(.int .i64 b1.2.2::[]))))))))))),(4,.box 88 (.cv (.slice none 0 0)::(.cv (.slice none 0 0)::(.cv (.slice none 0 0)::(cellsX T80 (Ty.dflt T80)++(.int .i64 0::(.int .i64 0::(.int .i64 0::(cellsX T85 (Ty.dflt T85)++(cellsX T86 (Ty.dflt T86)++(.int .i64 0::[]))))))))))),(20,.arr 3 (.int .i64) ((r0.2.1.take r0.2.1.length)++[thread]))],gt⟩) (fun b1 h=>?_) (fun hk_code_run_step_k1=>?_)
 ·as_aux_lemma =>
   unfold code_run_step_k1 at h
   refine zo ?_
   obtain ⟨c4,h⟩:=ck_some.1 h
   have hx5:((thread.toNat*8)+2)<16:=kAt_lt c4
   refine zS 5 [(2,.bp 2 0),(4,.bp 4 0),(5,.int .i64 (r0.2.1.length:Int)),(6,.bp 2 (30+thread.toNat*8)),(69,.int .i64 (intAt T85 b1.1 ((thread.toNat*8)+2))),(70,.bp 2 46)] [(2,.box 88 (.sl (.sl (.pair (.int .i64) (.pair (.int .i64) (.pair (.int .i64) (.int .i64))))) r0.1.1::(.sl (.sl (.int .i64)) r0.1.2::(.own 20::(cellsX T80 r0.2.2.1++(.int .i64 r0.2.2.2.1.1::(.int .i64 r0.2.2.2.1.2.1::(.int .i64 r0.2.2.2.1.2.2::(cellsX T85 b1.1++(cellsX T86 b1.2.1++(.int .i64 b1.2.2::[]))))))))))),(4,.box 88 (.cv (.slice none 0 0)::(.cv (.slice none 0 0)::(.cv (.slice none 0 0)::(cellsX T80 (Ty.dflt T80)++(.int .i64 0::(.int .i64 0::(.int .i64 0::(cellsX T85 (Ty.dflt T85)++(cellsX T86 (Ty.dflt T86)++(.int .i64 0::[]))))))))))),(20,.arr 3 (.int .i64) ((r0.2.1.take r0.2.1.length)++[thread]))] ?_ (h:=by (simp only [go_sem,c4])<;>(with_reducible and_intros)<;>first|assumption|rfl|omega|(unfold maxLen; omega))
   obtain ⟨c6,h⟩:=ck_some.1 h
   obtain ⟨c7,h⟩:=ck_some.1 h
   refine zB [(2,.bp 2 0),(4,.bp 4 0),(5,.int .i64 (r0.2.1.length:Int)),(6,.bp 2 (30+thread.toNat*8)),(8,.bp 2 (46+(intAt T85 b1.1 ((thread.toNat*8)+2)).toNat*6))] [(2,.box 88 (.sl (.sl (.pair (.int .i64) (.pair (.int .i64) (.pair (.int .i64) (.int .i64))))) r0.1.1::(.sl (.sl (.int .i64)) r0.1.2::(.own 20::(cellsX T80 r0.2.2.1++(.int .i64 r0.2.2.2.1.1::(.int .i64 r0.2.2.2.1.2.1::(.int .i64 r0.2.2.2.1.2.2::(cellsX T85 b1.1++(cellsX T86 b1.2.1++(.int .i64 b1.2.2::[]))))))))))),(4,.box 88 (.cv (.slice none 0 0)::(.cv (.slice none 0 0)::(.cv (.slice none 0 0)::(cellsX T80 (Ty.dflt T80)++(.int .i64 0::(.int .i64 0::(.int .i64 0::(cellsX T85 (Ty.dflt T85)++(cellsX T86 (Ty.dflt T86)++(.int .i64 0::[]))))))))))),(20,.arr 3 (.int .i64) ((r0.2.1.take r0.2.1.length)++[thread]))] ?_ (h:=by (simp only [go_sem,c4])<;>(with_reducible and_intros)<;>first|assumption|rfl|omega|(unfold maxLen; omega))
   refine AW.seq ?_
   refine AW.draw tab_ok mixed_ok [(15,[9]),(16,[9])] [(0,[2,20]),(1,[2,20]),(2,[2,20,1000000020]),(3,[2]),(4,[2,20,999999]),(5,[2,20]),(6,[2,20]),(7,[]),(8,[]),(9,[2]),(10,[2,20,999999]),(11,[2,20]),(12,[2,20]),(13,[]),(14,[]),(100016,[])] (by decide) (lex_fast (by kernel_rfl)) ?_
   as_aux_lemma =>
    refine adops_cut 6 (fun K' hK8=>?_)
    try dsimp only [List.drop_succ_cons,List.drop_zero,List.take_succ_cons,List.take_zero]
    simp only [go_sem,c4]
    repeat with_reducible refine zN ?_
    refine hK8 _ ?_
    as_aux_lemma =>
     have hx10:(((intAt T85 b1.1 ((thread.toNat*8)+2)).toNat*6)+2)<36:=by omega
     obtain ⟨c11,h⟩:=ck_some.1 h
     obtain ⟨c12,h⟩:=ck_some.1 h
     refine adops_cut 6 (fun K' hK9=>?_)
     try dsimp only [List.drop_succ_cons,List.drop_zero,List.take_succ_cons,List.take_zero]
     simp only [go_sem,c4,hx10]
     repeat with_reducible refine zN ?_
     refine hK9 _ ?_
     as_aux_lemma =>
      obtain ⟨c14,h⟩:=ck_some.1 h
      have hx15:((thread.toNat*8)+3)<16:=kAt_lt c14
      obtain ⟨c16,h⟩:=ck_some.1 h
      obtain ⟨c17,h⟩:=ck_some.1 h
      refine adops_cut 5 (fun K' hK13=>?_)
      try dsimp only [List.drop_succ_cons,List.drop_zero,List.take_succ_cons,List.take_zero]
      simp only [go_sem,c4,hx10,c14]
      repeat with_reducible refine zN ?_
      refine hK13 _ ?_
      refine adops_nil ?_
      refine athen_n ?_
      refine zV [(2,.bp 2 0),(4,.bp 4 0),(5,.int .i64 (r0.2.1.length:Int)),(6,.bp 2 (30+thread.toNat*8)),(8,.bp 2 (46+(intAt T85 b1.1 ((thread.toNat*8)+2)).toNat*6)),(9,.bp 9 0)] [(2,.box 88 (.sl (.sl (.pair (.int .i64) (.pair (.int .i64) (.pair (.int .i64) (.int .i64))))) r0.1.1::(.sl (.sl (.int .i64)) r0.1.2::(.own 20::(cellsX T80 r0.2.2.1++(.int .i64 r0.2.2.2.1.1::(.int .i64 r0.2.2.2.1.2.1::(.int .i64 r0.2.2.2.1.2.2::(cellsX T85 b1.1++(cellsX T86 b1.2.1++(.int .i64 b1.2.2::[]))))))))))),(4,.box 88 (.cv (.slice none 0 0)::(.cv (.slice none 0 0)::(.cv (.slice none 0 0)::(cellsX T80 (Ty.dflt T80)++(.int .i64 0::(.int .i64 0::(.int .i64 0::(cellsX T85 (Ty.dflt T85)++(cellsX T86 (Ty.dflt T86)++(.int .i64 0::[]))))))))))),(9,.box 74 [.int .i64 ((r0.1.1.getD (intAt T86 b1.2.1 (((intAt T85 b1.1 ((thread.toNat*8)+2)).toNat*6)+2)).toNat []).getD (intAt T85 b1.1 ((thread.toNat*8)+3)).toNat (0,0,0,0)).1,.int .i64 ((r0.1.1.getD (intAt T86 b1.2.1 (((intAt T85 b1.1 ((thread.toNat*8)+2)).toNat*6)+2)).toNat []).getD (intAt T85 b1.1 ((thread.toNat*8)+3)).toNat (0,0,0,0)).2.1,.int .i64 ((r0.1.1.getD (intAt T86 b1.2.1 (((intAt T85 b1.1 ((thread.toNat*8)+2)).toNat*6)+2)).toNat []).getD (intAt T85 b1.1 ((thread.toNat*8)+3)).toNat (0,0,0,0)).2.2.1,.int .i64 ((r0.1.1.getD (intAt T86 b1.2.1 (((intAt T85 b1.1 ((thread.toNat*8)+2)).toNat*6)+2)).toNat []).getD (intAt T85 b1.1 ((thread.toNat*8)+3)).toNat (0,0,0,0)).2.2.2]),(20,.arr 3 (.int .i64) ((r0.2.1.take r0.2.1.length)++[thread]))] gt ?_
      as_aux_lemma =>
       refine AW.seq ?_
       refine AW.draw tab_ok mixed_ok [(12,[2])] [] (by decide) (lex_fast (by kernel_rfl)) ?_
       as_aux_lemma =>
        obtain ⟨c19,h⟩:=ck_some.1 h
        have hx20:((thread.toNat*8)+2)<16:=kAt_lt c19
        refine adops_cut 6 (fun K' hK18=>?_)
        try dsimp only [List.drop_succ_cons,List.drop_zero,List.take_succ_cons,List.take_zero]
        simp only [go_sem,c4,hx10,c14,c19]
        repeat with_reducible refine zN ?_
        refine hK18 _ ?_
        as_aux_lemma =>
         obtain ⟨c22,h⟩:=ck_some.1 h
         have hx23:((thread.toNat*8)+3)<16:=kAt_lt c22
         obtain ⟨c24,h⟩:=ck_some.1 h
         refine adops_cut 6 (fun K' hK21=>?_)
         try dsimp only [List.drop_succ_cons,List.drop_zero,List.take_succ_cons,List.take_zero]
         simp only [go_sem,c4,hx10,c14,c19,c22]
         repeat with_reducible refine zN ?_
         refine hK21 _ ?_
         as_aux_lemma =>
          have hx26:((r0.2.1.length*2)+2)≤24:=by omega
          refine adops_cut 1 (fun K' hK25=>?_)
          try dsimp only [List.drop_succ_cons,List.drop_zero,List.take_succ_cons,List.take_zero]
          simp only [go_sem,c4,hx10,c14,c19,c22,hx26]
          repeat with_reducible refine zN ?_
          refine hK25 _ ?_
          refine adops_nil ?_
          refine athen_n ?_
          refine zV [(2,.bp 2 0),(4,.bp 4 0),(5,.int .i64 (r0.2.1.length:Int)),(6,.bp 2 (30+thread.toNat*8)),(8,.bp 2 (46+(intAt T85 b1.1 ((thread.toNat*8)+2)).toNat*6)),(9,.bp 9 0)] [(2,.box 88 (.sl (.sl (.pair (.int .i64) (.pair (.int .i64) (.pair (.int .i64) (.int .i64))))) r0.1.1::(.sl (.sl (.int .i64)) r0.1.2::(.own 20::(cellsX T80 (putX T80 (.pair (.int .i64) (.int .i64)) r0.2.2.1 (r0.2.1.length*2) ((intAt T85 b1.1 ((thread.toNat*8)+2)),(intAt T85 b1.1 ((thread.toNat*8)+3))))++(.int .i64 r0.2.2.2.1.1::(.int .i64 r0.2.2.2.1.2.1::(.int .i64 r0.2.2.2.1.2.2::(cellsX T85 b1.1++(cellsX T86 b1.2.1++(.int .i64 b1.2.2::[]))))))))))),(4,.box 88 (.cv (.slice none 0 0)::(.cv (.slice none 0 0)::(.cv (.slice none 0 0)::(cellsX T80 (Ty.dflt T80)++(.int .i64 0::(.int .i64 0::(.int .i64 0::(cellsX T85 (Ty.dflt T85)++(cellsX T86 (Ty.dflt T86)++(.int .i64 0::[]))))))))))),(9,.box 74 [.int .i64 ((r0.1.1.getD (intAt T86 b1.2.1 (((intAt T85 b1.1 ((thread.toNat*8)+2)).toNat*6)+2)).toNat []).getD (intAt T85 b1.1 ((thread.toNat*8)+3)).toNat (0,0,0,0)).1,.int .i64 ((r0.1.1.getD (intAt T86 b1.2.1 (((intAt T85 b1.1 ((thread.toNat*8)+2)).toNat*6)+2)).toNat []).getD (intAt T85 b1.1 ((thread.toNat*8)+3)).toNat (0,0,0,0)).2.1,.int .i64 ((r0.1.1.getD (intAt T86 b1.2.1 (((intAt T85 b1.1 ((thread.toNat*8)+2)).toNat*6)+2)).toNat []).getD (intAt T85 b1.1 ((thread.toNat*8)+3)).toNat (0,0,0,0)).2.2.1,.int .i64 ((r0.1.1.getD (intAt T86 b1.2.1 (((intAt T85 b1.1 ((thread.toNat*8)+2)).toNat*6)+2)).toNat []).getD (intAt T85 b1.1 ((thread.toNat*8)+3)).toNat (0,0,0,0)).2.2.2]),(20,.arr 3 (.int .i64) ((r0.2.1.take r0.2.1.length)++[thread]))] gt ?_
          as_aux_lemma =>
           refine zo ?_
           obtain ⟨c27,h⟩:=ck_some.1 h
           have hx28:((thread.toNat*8)+3)<16:=kAt_lt c27
           obtain ⟨c29,h⟩:=ck_some.1 h
           refine zS 5 [(2,.bp 2 0),(4,.bp 4 0),(5,.int .i64 (r0.2.1.length:Int)),(6,.bp 2 (30+thread.toNat*8)),(8,.bp 2 (46+(intAt T85 b1.1 ((thread.toNat*8)+2)).toNat*6)),(9,.bp 9 0),(99,.bp 2 (30+thread.toNat*8)),(103,.int .i64 ((intAt T85 b1.1 ((thread.toNat*8)+3))+1))] [(2,.box 88 (.sl (.sl (.pair (.int .i64) (.pair (.int .i64) (.pair (.int .i64) (.int .i64))))) r0.1.1::(.sl (.sl (.int .i64)) r0.1.2::(.own 20::(cellsX T80 (putX T80 (.pair (.int .i64) (.int .i64)) r0.2.2.1 (r0.2.1.length*2) ((intAt T85 b1.1 ((thread.toNat*8)+2)),(intAt T85 b1.1 ((thread.toNat*8)+3))))++(.int .i64 r0.2.2.2.1.1::(.int .i64 r0.2.2.2.1.2.1::(.int .i64 r0.2.2.2.1.2.2::(cellsX T85 b1.1++(cellsX T86 b1.2.1++(.int .i64 b1.2.2::[]))))))))))),(4,.box 88 (.cv (.slice none 0 0)::(.cv (.slice none 0 0)::(.cv (.slice none 0 0)::(cellsX T80 (Ty.dflt T80)++(.int .i64 0::(.int .i64 0::(.int .i64 0::(cellsX T85 (Ty.dflt T85)++(cellsX T86 (Ty.dflt T86)++(.int .i64 0::[]))))))))))),(9,.box 74 [.int .i64 ((r0.1.1.getD (intAt T86 b1.2.1 (((intAt T85 b1.1 ((thread.toNat*8)+2)).toNat*6)+2)).toNat []).getD (intAt T85 b1.1 ((thread.toNat*8)+3)).toNat (0,0,0,0)).1,.int .i64 ((r0.1.1.getD (intAt T86 b1.2.1 (((intAt T85 b1.1 ((thread.toNat*8)+2)).toNat*6)+2)).toNat []).getD (intAt T85 b1.1 ((thread.toNat*8)+3)).toNat (0,0,0,0)).2.1,.int .i64 ((r0.1.1.getD (intAt T86 b1.2.1 (((intAt T85 b1.1 ((thread.toNat*8)+2)).toNat*6)+2)).toNat []).getD (intAt T85 b1.1 ((thread.toNat*8)+3)).toNat (0,0,0,0)).2.2.1,.int .i64 ((r0.1.1.getD (intAt T86 b1.2.1 (((intAt T85 b1.1 ((thread.toNat*8)+2)).toNat*6)+2)).toNat []).getD (intAt T85 b1.1 ((thread.toNat*8)+3)).toNat (0,0,0,0)).2.2.2]),(20,.arr 3 (.int .i64) ((r0.2.1.take r0.2.1.length)++[thread]))] ?_ (h:=by (simp only [go_sem,c4,hx10,c14,c19,c22,hx26,c27])<;>(with_reducible and_intros)<;>first|assumption|rfl|omega|(unfold maxLen; omega))
           obtain ⟨c30,h⟩:=ck_some.1 h
           have hx31:((thread.toNat*8)+3)<16:=kAt_lt c30
           refine zB [(2,.bp 2 0),(4,.bp 4 0),(5,.int .i64 (r0.2.1.length:Int)),(6,.bp 2 (30+thread.toNat*8)),(8,.bp 2 (46+(intAt T85 b1.1 ((thread.toNat*8)+2)).toNat*6)),(9,.bp 9 0)] [(2,.box 88 (.sl (.sl (.pair (.int .i64) (.pair (.int .i64) (.pair (.int .i64) (.int .i64))))) r0.1.1::(.sl (.sl (.int .i64)) r0.1.2::(.own 20::(cellsX T80 (putX T80 (.pair (.int .i64) (.int .i64)) r0.2.2.1 (r0.2.1.length*2) ((intAt T85 b1.1 ((thread.toNat*8)+2)),(intAt T85 b1.1 ((thread.toNat*8)+3))))++(.int .i64 r0.2.2.2.1.1::(.int .i64 r0.2.2.2.1.2.1::(.int .i64 r0.2.2.2.1.2.2::(cellsX T85 (setInt T85 b1.1 ((thread.toNat*8)+3) ((intAt T85 b1.1 ((thread.toNat*8)+3))+1))++(cellsX T86 b1.2.1++(.int .i64 b1.2.2::[]))))))))))),(4,.box 88 (.cv (.slice none 0 0)::(.cv (.slice none 0 0)::(.cv (.slice none 0 0)::(cellsX T80 (Ty.dflt T80)++(.int .i64 0::(.int .i64 0::(.int .i64 0::(cellsX T85 (Ty.dflt T85)++(cellsX T86 (Ty.dflt T86)++(.int .i64 0::[]))))))))))),(9,.box 74 [.int .i64 ((r0.1.1.getD (intAt T86 b1.2.1 (((intAt T85 b1.1 ((thread.toNat*8)+2)).toNat*6)+2)).toNat []).getD (intAt T85 b1.1 ((thread.toNat*8)+3)).toNat (0,0,0,0)).1,.int .i64 ((r0.1.1.getD (intAt T86 b1.2.1 (((intAt T85 b1.1 ((thread.toNat*8)+2)).toNat*6)+2)).toNat []).getD (intAt T85 b1.1 ((thread.toNat*8)+3)).toNat (0,0,0,0)).2.1,.int .i64 ((r0.1.1.getD (intAt T86 b1.2.1 (((intAt T85 b1.1 ((thread.toNat*8)+2)).toNat*6)+2)).toNat []).getD (intAt T85 b1.1 ((thread.toNat*8)+3)).toNat (0,0,0,0)).2.2.1,.int .i64 ((r0.1.1.getD (intAt T86 b1.2.1 (((intAt T85 b1.1 ((thread.toNat*8)+2)).toNat*6)+2)).toNat []).getD (intAt T85 b1.1 ((thread.toNat*8)+3)).toNat (0,0,0,0)).2.2.2]),(20,.arr 3 (.int .i64) ((r0.2.1.take r0.2.1.length)++[thread]))] ?_ (h:=by (simp only [go_sem,c4,hx10,c14,c19,c22,hx26,c27,c30])<;>(with_reducible and_intros)<;>first|assumption|rfl|omega|(unfold maxLen; omega))
           refine AW.seq ?_
           refine zo ?_
           refine zB [(2,.bp 2 0),(4,.bp 4 0),(5,.int .i64 (r0.2.1.length:Int)),(6,.bp 2 (30+thread.toNat*8)),(8,.bp 2 (46+(intAt T85 b1.1 ((thread.toNat*8)+2)).toNat*6)),(9,.bp 9 0),(108,.bool (decide (((r0.1.1.getD (intAt T86 b1.2.1 (((intAt T85 b1.1 ((thread.toNat*8)+2)).toNat*6)+2)).toNat []).getD (intAt T85 b1.1 ((thread.toNat*8)+3)).toNat (0,0,0,0)).1=7)))] [(2,.box 88 (.sl (.sl (.pair (.int .i64) (.pair (.int .i64) (.pair (.int .i64) (.int .i64))))) r0.1.1::(.sl (.sl (.int .i64)) r0.1.2::(.own 20::(cellsX T80 (putX T80 (.pair (.int .i64) (.int .i64)) r0.2.2.1 (r0.2.1.length*2) ((intAt T85 b1.1 ((thread.toNat*8)+2)),(intAt T85 b1.1 ((thread.toNat*8)+3))))++(.int .i64 r0.2.2.2.1.1::(.int .i64 r0.2.2.2.1.2.1::(.int .i64 r0.2.2.2.1.2.2::(cellsX T85 (setInt T85 b1.1 ((thread.toNat*8)+3) ((intAt T85 b1.1 ((thread.toNat*8)+3))+1))++(cellsX T86 b1.2.1++(.int .i64 b1.2.2::[]))))))))))),(4,.box 88 (.cv (.slice none 0 0)::(.cv (.slice none 0 0)::(.cv (.slice none 0 0)::(cellsX T80 (Ty.dflt T80)++(.int .i64 0::(.int .i64 0::(.int .i64 0::(cellsX T85 (Ty.dflt T85)++(cellsX T86 (Ty.dflt T86)++(.int .i64 0::[]))))))))))),(9,.box 74 [.int .i64 ((r0.1.1.getD (intAt T86 b1.2.1 (((intAt T85 b1.1 ((thread.toNat*8)+2)).toNat*6)+2)).toNat []).getD (intAt T85 b1.1 ((thread.toNat*8)+3)).toNat (0,0,0,0)).1,.int .i64 ((r0.1.1.getD (intAt T86 b1.2.1 (((intAt T85 b1.1 ((thread.toNat*8)+2)).toNat*6)+2)).toNat []).getD (intAt T85 b1.1 ((thread.toNat*8)+3)).toNat (0,0,0,0)).2.1,.int .i64 ((r0.1.1.getD (intAt T86 b1.2.1 (((intAt T85 b1.1 ((thread.toNat*8)+2)).toNat*6)+2)).toNat []).getD (intAt T85 b1.1 ((thread.toNat*8)+3)).toNat (0,0,0,0)).2.2.1,.int .i64 ((r0.1.1.getD (intAt T86 b1.2.1 (((intAt T85 b1.1 ((thread.toNat*8)+2)).toNat*6)+2)).toNat []).getD (intAt T85 b1.1 ((thread.toNat*8)+3)).toNat (0,0,0,0)).2.2.2]),(20,.arr 3 (.int .i64) ((r0.2.1.take r0.2.1.length)++[thread]))] ?_ (h:=by (simp only [go_sem,c4,hx10,c14,c19,c22,hx26,c27,c30])<;>(with_reducible and_intros)<;>first|assumption|rfl|omega|(unfold maxLen; omega))
           refine zQ h (fun hb32 h=>?_) (fun hb32 h=>?_)
           ·refine AW.seq ?_
            refine AW.draw tab_ok mixed_ok [(14,[2]),(17,[2])] [(1,[2]),(9,[]),(10,[]),(11,[]),(100014,[]),(100017,[])] (by decide) (lex_fast (by kernel_rfl)) ?_
            as_aux_lemma =>
             refine adops_cut 6 (fun K' hK33=>?_)
             try dsimp only [List.drop_succ_cons,List.drop_zero,List.take_succ_cons,List.take_zero]
             simp only [go_sem,c4,hx10,c14,c19,c22,hx26,c27,c30,hb32]
             repeat with_reducible refine zN ?_
             refine hK33 _ ?_
             as_aux_lemma =>
              obtain ⟨c35,h⟩:=ck_some.1 h
              obtain ⟨c36,h⟩:=ck_some.1 h
              obtain ⟨c37,h⟩:=ck_some.1 h
              have hx38:(((thread.toNat*8)+4)+((r0.1.1.getD (intAt T86 b1.2.1 (((intAt T85 b1.1 ((thread.toNat*8)+2)).toNat*6)+2)).toNat []).getD (intAt T85 b1.1 ((thread.toNat*8)+3)).toNat (0,0,0,0)).2.1.toNat*1)<16:=kAt_lt c37
              obtain ⟨c39,h⟩:=ck_some.1 h
              obtain ⟨c40,h⟩:=ck_some.1 h
              refine adops_cut 6 (fun K' hK34=>?_)
              try dsimp only [List.drop_succ_cons,List.drop_zero,List.take_succ_cons,List.take_zero]
              simp only [go_sem,c4,hx10,c14,c19,c22,hx26,c27,c30,hb32,c37]
              repeat with_reducible refine zN ?_
              refine hK34 _ ?_
              as_aux_lemma =>
               have hx42:(((intAt T85 b1.1 ((thread.toNat*8)+2)).toNat*6)+3)<36:=by omega
               have hx43:(((intAt T85 b1.1 ((thread.toNat*8)+2)).toNat*6)+5)<36:=by omega
               refine adops_cut 6 (fun K' hK41=>?_)
               try dsimp only [List.drop_succ_cons,List.drop_zero,List.take_succ_cons,List.take_zero]
               simp only [go_sem,c4,hx10,c14,c19,c22,hx26,c27,c30,hb32,c37,hx42,hx43]
               repeat with_reducible refine zN ?_
               refine hK41 _ ?_
               refine adops_nil ?_
               refine athen_n ?_
               refine zV [(2,.bp 2 0),(4,.bp 4 0),(6,.bp 2 (30+thread.toNat*8))] [(2,.box 88 (.sl (.sl (.pair (.int .i64) (.pair (.int .i64) (.pair (.int .i64) (.int .i64))))) r0.1.1::(.sl (.sl (.int .i64)) r0.1.2::(.own 20::(cellsX T80 (putX T80 (.pair (.int .i64) (.int .i64)) r0.2.2.1 (r0.2.1.length*2) ((intAt T85 b1.1 ((thread.toNat*8)+2)),(intAt T85 b1.1 ((thread.toNat*8)+3))))++(.int .i64 r0.2.2.2.1.1::(.int .i64 r0.2.2.2.1.2.1::(.int .i64 r0.2.2.2.1.2.2::(cellsX T85 (setInt T85 b1.1 ((thread.toNat*8)+3) ((intAt T85 b1.1 ((thread.toNat*8)+3))+1))++(cellsX T86 (setInt T86 (setInt T86 b1.2.1 (((intAt T85 b1.1 ((thread.toNat*8)+2)).toNat*6)+3) (intAt T85 (setInt T85 b1.1 ((thread.toNat*8)+3) ((intAt T85 b1.1 ((thread.toNat*8)+3))+1)) (((thread.toNat*8)+4)+((r0.1.1.getD (intAt T86 b1.2.1 (((intAt T85 b1.1 ((thread.toNat*8)+2)).toNat*6)+2)).toNat []).getD (intAt T85 b1.1 ((thread.toNat*8)+3)).toNat (0,0,0,0)).2.1.toNat*1))) (((intAt T85 b1.1 ((thread.toNat*8)+2)).toNat*6)+5) ((2*(r0.2.1.length:Int))+2))++(.int .i64 b1.2.2::[]))))))))))),(4,.box 88 (.cv (.slice none 0 0)::(.cv (.slice none 0 0)::(.cv (.slice none 0 0)::(cellsX T80 (Ty.dflt T80)++(.int .i64 0::(.int .i64 0::(.int .i64 0::(cellsX T85 (Ty.dflt T85)++(cellsX T86 (Ty.dflt T86)++(.int .i64 0::[]))))))))))),(20,.arr 3 (.int .i64) ((r0.2.1.take r0.2.1.length)++[thread]))] gt ?_
               as_aux_lemma =>
                refine zo ?_
                obtain ⟨c44,h⟩:=ck_some.1 h
                have hx45:((thread.toNat*8)+1)<16:=kAt_lt c44
                refine zB [(2,.bp 2 0),(4,.bp 4 0),(6,.bp 2 (30+thread.toNat*8))] [(2,.box 88 (.sl (.sl (.pair (.int .i64) (.pair (.int .i64) (.pair (.int .i64) (.int .i64))))) r0.1.1::(.sl (.sl (.int .i64)) r0.1.2::(.own 20::(cellsX T80 (putX T80 (.pair (.int .i64) (.int .i64)) r0.2.2.1 (r0.2.1.length*2) ((intAt T85 b1.1 ((thread.toNat*8)+2)),(intAt T85 b1.1 ((thread.toNat*8)+3))))++(.int .i64 r0.2.2.2.1.1::(.int .i64 r0.2.2.2.1.2.1::(.int .i64 r0.2.2.2.1.2.2::(cellsX T85 (setBool T85 (setInt T85 b1.1 ((thread.toNat*8)+3) ((intAt T85 b1.1 ((thread.toNat*8)+3))+1)) ((thread.toNat*8)+1) false)++(cellsX T86 (setInt T86 (setInt T86 b1.2.1 (((intAt T85 b1.1 ((thread.toNat*8)+2)).toNat*6)+3) (intAt T85 (setInt T85 b1.1 ((thread.toNat*8)+3) ((intAt T85 b1.1 ((thread.toNat*8)+3))+1)) (((thread.toNat*8)+4)+((r0.1.1.getD (intAt T86 b1.2.1 (((intAt T85 b1.1 ((thread.toNat*8)+2)).toNat*6)+2)).toNat []).getD (intAt T85 b1.1 ((thread.toNat*8)+3)).toNat (0,0,0,0)).2.1.toNat*1))) (((intAt T85 b1.1 ((thread.toNat*8)+2)).toNat*6)+5) ((2*(r0.2.1.length:Int))+2))++(.int .i64 b1.2.2::[]))))))))))),(4,.box 88 (.cv (.slice none 0 0)::(.cv (.slice none 0 0)::(.cv (.slice none 0 0)::(cellsX T80 (Ty.dflt T80)++(.int .i64 0::(.int .i64 0::(.int .i64 0::(cellsX T85 (Ty.dflt T85)++(cellsX T86 (Ty.dflt T86)++(.int .i64 0::[]))))))))))),(20,.arr 3 (.int .i64) ((r0.2.1.take r0.2.1.length)++[thread]))] ?_ (h:=by (simp only [go_sem,c4,hx10,c14,c19,c22,hx26,c27,c30,hb32,c37,hx42,hx43,c44])<;>(with_reducible and_intros)<;>first|assumption|rfl|omega|(unfold maxLen; omega))
                refine AW.ops ?_
                obtain ⟨c46,h⟩:=ck_some.1 h
                have hx47:(thread.toNat*8)<16:=kAt_lt c46
                obtain ⟨c48,h⟩:=ck_some.1 h
                refine zS 5 [(2,.bp 2 0),(4,.bp 4 0),(128,.bp 2 (30+thread.toNat*8)),(132,.int .i64 ((intAt T85 (setBool T85 (setInt T85 b1.1 ((thread.toNat*8)+3) ((intAt T85 b1.1 ((thread.toNat*8)+3))+1)) ((thread.toNat*8)+1) false) (thread.toNat*8))+1))] [(2,.box 88 (.sl (.sl (.pair (.int .i64) (.pair (.int .i64) (.pair (.int .i64) (.int .i64))))) r0.1.1::(.sl (.sl (.int .i64)) r0.1.2::(.own 20::(cellsX T80 (putX T80 (.pair (.int .i64) (.int .i64)) r0.2.2.1 (r0.2.1.length*2) ((intAt T85 b1.1 ((thread.toNat*8)+2)),(intAt T85 b1.1 ((thread.toNat*8)+3))))++(.int .i64 r0.2.2.2.1.1::(.int .i64 r0.2.2.2.1.2.1::(.int .i64 r0.2.2.2.1.2.2::(cellsX T85 (setBool T85 (setInt T85 b1.1 ((thread.toNat*8)+3) ((intAt T85 b1.1 ((thread.toNat*8)+3))+1)) ((thread.toNat*8)+1) false)++(cellsX T86 (setInt T86 (setInt T86 b1.2.1 (((intAt T85 b1.1 ((thread.toNat*8)+2)).toNat*6)+3) (intAt T85 (setInt T85 b1.1 ((thread.toNat*8)+3) ((intAt T85 b1.1 ((thread.toNat*8)+3))+1)) (((thread.toNat*8)+4)+((r0.1.1.getD (intAt T86 b1.2.1 (((intAt T85 b1.1 ((thread.toNat*8)+2)).toNat*6)+2)).toNat []).getD (intAt T85 b1.1 ((thread.toNat*8)+3)).toNat (0,0,0,0)).2.1.toNat*1))) (((intAt T85 b1.1 ((thread.toNat*8)+2)).toNat*6)+5) ((2*(r0.2.1.length:Int))+2))++(.int .i64 b1.2.2::[]))))))))))),(4,.box 88 (.cv (.slice none 0 0)::(.cv (.slice none 0 0)::(.cv (.slice none 0 0)::(cellsX T80 (Ty.dflt T80)++(.int .i64 0::(.int .i64 0::(.int .i64 0::(cellsX T85 (Ty.dflt T85)++(cellsX T86 (Ty.dflt T86)++(.int .i64 0::[]))))))))))),(20,.arr 3 (.int .i64) ((r0.2.1.take r0.2.1.length)++[thread]))] ?_ (h:=by (simp only [go_sem,c4,hx10,c14,c19,c22,hx26,c27,c30,hb32,c37,hx42,hx43,c44,c46])<;>(with_reducible and_intros)<;>first|assumption|rfl|omega|(unfold maxLen; omega))
                obtain ⟨c49,h⟩:=ck_some.1 h
                have hx50:(thread.toNat*8)<16:=kAt_lt c49
                refine zB [(2,.bp 2 0),(4,.bp 4 0)] [(2,.box 88 (.sl (.sl (.pair (.int .i64) (.pair (.int .i64) (.pair (.int .i64) (.int .i64))))) r0.1.1::(.sl (.sl (.int .i64)) r0.1.2::(.own 20::(cellsX T80 (putX T80 (.pair (.int .i64) (.int .i64)) r0.2.2.1 (r0.2.1.length*2) ((intAt T85 b1.1 ((thread.toNat*8)+2)),(intAt T85 b1.1 ((thread.toNat*8)+3))))++(.int .i64 r0.2.2.2.1.1::(.int .i64 r0.2.2.2.1.2.1::(.int .i64 r0.2.2.2.1.2.2::(cellsX T85 (setInt T85 (setBool T85 (setInt T85 b1.1 ((thread.toNat*8)+3) ((intAt T85 b1.1 ((thread.toNat*8)+3))+1)) ((thread.toNat*8)+1) false) (thread.toNat*8) ((intAt T85 (setBool T85 (setInt T85 b1.1 ((thread.toNat*8)+3) ((intAt T85 b1.1 ((thread.toNat*8)+3))+1)) ((thread.toNat*8)+1) false) (thread.toNat*8))+1))++(cellsX T86 (setInt T86 (setInt T86 b1.2.1 (((intAt T85 b1.1 ((thread.toNat*8)+2)).toNat*6)+3) (intAt T85 (setInt T85 b1.1 ((thread.toNat*8)+3) ((intAt T85 b1.1 ((thread.toNat*8)+3))+1)) (((thread.toNat*8)+4)+((r0.1.1.getD (intAt T86 b1.2.1 (((intAt T85 b1.1 ((thread.toNat*8)+2)).toNat*6)+2)).toNat []).getD (intAt T85 b1.1 ((thread.toNat*8)+3)).toNat (0,0,0,0)).2.1.toNat*1))) (((intAt T85 b1.1 ((thread.toNat*8)+2)).toNat*6)+5) ((2*(r0.2.1.length:Int))+2))++(.int .i64 b1.2.2::[]))))))))))),(4,.box 88 (.cv (.slice none 0 0)::(.cv (.slice none 0 0)::(.cv (.slice none 0 0)::(cellsX T80 (Ty.dflt T80)++(.int .i64 0::(.int .i64 0::(.int .i64 0::(cellsX T85 (Ty.dflt T85)++(cellsX T86 (Ty.dflt T86)++(.int .i64 0::[]))))))))))),(20,.arr 3 (.int .i64) ((r0.2.1.take r0.2.1.length)++[thread]))] ?_ (h:=by (simp only [go_sem,c4,hx10,c14,c19,c22,hx26,c27,c30,hb32,c37,hx42,hx43,c44,c46,c49])<;>(with_reducible and_intros)<;>first|assumption|rfl|omega|(unfold maxLen; omega))
                refine zo ?_
                refine zB [(4,.bp 4 0)] [(4,.box 88 (.sl (.sl (.pair (.int .i64) (.pair (.int .i64) (.pair (.int .i64) (.int .i64))))) r0.1.1::(.sl (.sl (.int .i64)) r0.1.2::(.own 20::(cellsX T80 (putX T80 (.pair (.int .i64) (.int .i64)) r0.2.2.1 (r0.2.1.length*2) ((intAt T85 b1.1 ((thread.toNat*8)+2)),(intAt T85 b1.1 ((thread.toNat*8)+3))))++(.int .i64 r0.2.2.2.1.1::(.int .i64 r0.2.2.2.1.2.1::(.int .i64 r0.2.2.2.1.2.2::(cellsX T85 (setInt T85 (setBool T85 (setInt T85 b1.1 ((thread.toNat*8)+3) ((intAt T85 b1.1 ((thread.toNat*8)+3))+1)) ((thread.toNat*8)+1) false) (thread.toNat*8) ((intAt T85 (setBool T85 (setInt T85 b1.1 ((thread.toNat*8)+3) ((intAt T85 b1.1 ((thread.toNat*8)+3))+1)) ((thread.toNat*8)+1) false) (thread.toNat*8))+1))++(cellsX T86 (setInt T86 (setInt T86 b1.2.1 (((intAt T85 b1.1 ((thread.toNat*8)+2)).toNat*6)+3) (intAt T85 (setInt T85 b1.1 ((thread.toNat*8)+3) ((intAt T85 b1.1 ((thread.toNat*8)+3))+1)) (((thread.toNat*8)+4)+((r0.1.1.getD (intAt T86 b1.2.1 (((intAt T85 b1.1 ((thread.toNat*8)+2)).toNat*6)+2)).toNat []).getD (intAt T85 b1.1 ((thread.toNat*8)+3)).toNat (0,0,0,0)).2.1.toNat*1))) (((intAt T85 b1.1 ((thread.toNat*8)+2)).toNat*6)+5) ((2*(r0.2.1.length:Int))+2))++(.int .i64 b1.2.2::[]))))))))))),(20,.arr 3 (.int .i64) ((r0.2.1.take r0.2.1.length)++[thread]))] ?_ (h:=by (simp only [go_sem,c4,hx10,c14,c19,c22,hx26,c27,c30,hb32,c37,hx42,hx43,c44,c46,c49])<;>(with_reducible and_intros)<;>first|assumption|rfl|omega|(unfold maxLen; omega))
                refine AW.ret ?_
                obtain rfl:=Option.some.inj h
                exact zR [] [] [(2000,20)]
           ·refine AW.ops ?_
            refine zS 3 [(2,.bp 2 0),(4,.bp 4 0),(135,.bp 2 (30+thread.toNat*8)),(136,.agg [.int .i64 ((r0.1.1.getD (intAt T86 b1.2.1 (((intAt T85 b1.1 ((thread.toNat*8)+2)).toNat*6)+2)).toNat []).getD (intAt T85 b1.1 ((thread.toNat*8)+3)).toNat (0,0,0,0)).1,.int .i64 ((r0.1.1.getD (intAt T86 b1.2.1 (((intAt T85 b1.1 ((thread.toNat*8)+2)).toNat*6)+2)).toNat []).getD (intAt T85 b1.1 ((thread.toNat*8)+3)).toNat (0,0,0,0)).2.1,.int .i64 ((r0.1.1.getD (intAt T86 b1.2.1 (((intAt T85 b1.1 ((thread.toNat*8)+2)).toNat*6)+2)).toNat []).getD (intAt T85 b1.1 ((thread.toNat*8)+3)).toNat (0,0,0,0)).2.2.1,.int .i64 ((r0.1.1.getD (intAt T86 b1.2.1 (((intAt T85 b1.1 ((thread.toNat*8)+2)).toNat*6)+2)).toNat []).getD (intAt T85 b1.1 ((thread.toNat*8)+3)).toNat (0,0,0,0)).2.2.2]),(137,.bp 2 27)] [(2,.box 88 (.sl (.sl (.pair (.int .i64) (.pair (.int .i64) (.pair (.int .i64) (.int .i64))))) r0.1.1::(.sl (.sl (.int .i64)) r0.1.2::(.own 20::(cellsX T80 (putX T80 (.pair (.int .i64) (.int .i64)) r0.2.2.1 (r0.2.1.length*2) ((intAt T85 b1.1 ((thread.toNat*8)+2)),(intAt T85 b1.1 ((thread.toNat*8)+3))))++(.int .i64 r0.2.2.2.1.1::(.int .i64 r0.2.2.2.1.2.1::(.int .i64 r0.2.2.2.1.2.2::(cellsX T85 (setInt T85 b1.1 ((thread.toNat*8)+3) ((intAt T85 b1.1 ((thread.toNat*8)+3))+1))++(cellsX T86 b1.2.1++(.int .i64 b1.2.2::[]))))))))))),(4,.box 88 (.cv (.slice none 0 0)::(.cv (.slice none 0 0)::(.cv (.slice none 0 0)::(cellsX T80 (Ty.dflt T80)++(.int .i64 0::(.int .i64 0::(.int .i64 0::(cellsX T85 (Ty.dflt T85)++(cellsX T86 (Ty.dflt T86)++(.int .i64 0::[]))))))))))),(20,.arr 3 (.int .i64) ((r0.2.1.take r0.2.1.length)++[thread]))] ?_ (h:=by (simp only [go_sem,c4,hx10,c14,c19,c22,hx26,c27,c30,hb32])<;>(with_reducible and_intros)<;>first|assumption|rfl|omega|(unfold maxLen; omega))
            obtain ⟨v0,hv51,h⟩:=Option.bind_eq_some_iff.1 h
            refine zC [] [(1000,2),(1001,20)] (hc_code_worker_do (thread.toNat*8) ((r0.1.1.getD (intAt T86 b1.2.1 (((intAt T85 b1.1 ((thread.toNat*8)+2)).toNat*6)+2)).toNat []).getD (intAt T85 b1.1 ((thread.toNat*8)+3)).toNat (0,0,0,0)) r0.1.1 r0.1.2 (putX T80 (.pair (.int .i64) (.int .i64)) r0.2.2.1 (r0.2.1.length*2) ((intAt T85 b1.1 ((thread.toNat*8)+2)),(intAt T85 b1.1 ((thread.toNat*8)+3)))) r0.2.2.2.1.1 r0.2.2.2.1.2.1 r0.2.2.2.1.2.2 (setInt T85 b1.1 ((thread.toNat*8)+3) ((intAt T85 b1.1 ((thread.toNat*8)+3))+1)) b1.2.1 b1.2.2 ((r0.2.1.take r0.2.1.length)++[thread]) hv51) [(2,.bp 2 0),(4,.bp 4 0)] [(2,.box 88 (.sl (.sl (.pair (.int .i64) (.pair (.int .i64) (.pair (.int .i64) (.int .i64))))) r0.1.1::(.sl (.sl (.int .i64)) r0.1.2::(.own 20::(cellsX T80 (putX T80 (.pair (.int .i64) (.int .i64)) r0.2.2.1 (r0.2.1.length*2) ((intAt T85 b1.1 ((thread.toNat*8)+2)),(intAt T85 b1.1 ((thread.toNat*8)+3))))++(.int .i64 v0.1::(.int .i64 v0.2.1::(.int .i64 v0.2.2.1::(cellsX T85 v0.2.2.2++(cellsX T86 b1.2.1++(.int .i64 b1.2.2::[]))))))))))),(4,.box 88 (.cv (.slice none 0 0)::(.cv (.slice none 0 0)::(.cv (.slice none 0 0)::(cellsX T80 (Ty.dflt T80)++(.int .i64 0::(.int .i64 0::(.int .i64 0::(cellsX T85 (Ty.dflt T85)++(cellsX T86 (Ty.dflt T86)++(.int .i64 0::[]))))))))))),(20,.arr 3 (.int .i64) ((r0.2.1.take r0.2.1.length)++[thread]))] ?_
            refine zB [(2,.bp 2 0),(4,.bp 4 0)] [(2,.box 88 (.sl (.sl (.pair (.int .i64) (.pair (.int .i64) (.pair (.int .i64) (.int .i64))))) r0.1.1::(.sl (.sl (.int .i64)) r0.1.2::(.own 20::(cellsX T80 (putX T80 (.pair (.int .i64) (.int .i64)) r0.2.2.1 (r0.2.1.length*2) ((intAt T85 b1.1 ((thread.toNat*8)+2)),(intAt T85 b1.1 ((thread.toNat*8)+3))))++(.int .i64 v0.1::(.int .i64 v0.2.1::(.int .i64 v0.2.2.1::(cellsX T85 v0.2.2.2++(cellsX T86 b1.2.1++(.int .i64 b1.2.2::[]))))))))))),(4,.box 88 (.cv (.slice none 0 0)::(.cv (.slice none 0 0)::(.cv (.slice none 0 0)::(cellsX T80 (Ty.dflt T80)++(.int .i64 0::(.int .i64 0::(.int .i64 0::(cellsX T85 (Ty.dflt T85)++(cellsX T86 (Ty.dflt T86)++(.int .i64 0::[]))))))))))),(20,.arr 3 (.int .i64) ((r0.2.1.take r0.2.1.length)++[thread]))] ?_ (h:=by (simp only [go_sem,c4,hx10,c14,c19,c22,hx26,c27,c30,hb32])<;>(with_reducible and_intros)<;>first|assumption|rfl|omega|(unfold maxLen; omega))
            refine zo ?_
            refine zB [(4,.bp 4 0)] [(4,.box 88 (.sl (.sl (.pair (.int .i64) (.pair (.int .i64) (.pair (.int .i64) (.int .i64))))) r0.1.1::(.sl (.sl (.int .i64)) r0.1.2::(.own 20::(cellsX T80 (putX T80 (.pair (.int .i64) (.int .i64)) r0.2.2.1 (r0.2.1.length*2) ((intAt T85 b1.1 ((thread.toNat*8)+2)),(intAt T85 b1.1 ((thread.toNat*8)+3))))++(.int .i64 v0.1::(.int .i64 v0.2.1::(.int .i64 v0.2.2.1::(cellsX T85 v0.2.2.2++(cellsX T86 b1.2.1++(.int .i64 b1.2.2::[]))))))))))),(20,.arr 3 (.int .i64) ((r0.2.1.take r0.2.1.length)++[thread]))] ?_ (h:=by (simp only [go_sem,c4,hx10,c14,c19,c22,hx26,c27,c30,hb32])<;>(with_reducible and_intros)<;>first|assumption|rfl|omega|(unfold maxLen; omega))
            refine AW.ret ?_
            obtain rfl:=Option.some.inj h
            exact zR [] [] [(2000,20)]
 ·refine AW.seq ?_
  refine zo ?_
  obtain ⟨c52,h⟩:=ck_some.1 h
  have hx53:((thread.toNat*8)+1)<16:=kAt_lt c52
  refine zB [(1,.int .i64 thread),(2,.bp 2 0),(4,.bp 4 0),(5,.int .i64 (r0.2.1.length:Int)),(6,.bp 2 (30+thread.toNat*8)),(29,.bool (!(boolAt T85 r0.2.2.2.2.1 ((thread.toNat*8)+1))))] [(2,.box 88 (.sl (.sl (.pair (.int .i64) (.pair (.int .i64) (.pair (.int .i64) (.int .i64))))) r0.1.1::(.sl (.sl (.int .i64)) r0.1.2::(.own 20::(cellsX T80 r0.2.2.1++(.int .i64 r0.2.2.2.1.1::(.int .i64 r0.2.2.2.1.2.1::(.int .i64 r0.2.2.2.1.2.2::(cellsX T85 r0.2.2.2.2.1++(cellsX T86 r0.2.2.2.2.2.1++(.int .i64 r0.2.2.2.2.2.2::[]))))))))))),(4,.box 88 (.cv (.slice none 0 0)::(.cv (.slice none 0 0)::(.cv (.slice none 0 0)::(cellsX T80 (Ty.dflt T80)++(.int .i64 0::(.int .i64 0::(.int .i64 0::(cellsX T85 (Ty.dflt T85)++(cellsX T86 (Ty.dflt T86)++(.int .i64 0::[]))))))))))),(20,.arr 3 (.int .i64) ((r0.2.1.take r0.2.1.length)++[thread]))] ?_ (h:=by (simp only [go_sem,c52])<;>(with_reducible and_intros)<;>first|assumption|rfl|omega|(unfold maxLen; omega))
  refine zQ h (fun hb54 h=>?_) (fun hb54 h=>?_)
  ·refine AW.seq ?_
   refine AW.draw tab_ok mixed_ok [] [] (by decide) (lex_fast (by kernel_rfl)) ?_
   as_aux_lemma =>
    obtain ⟨c56,h⟩:=ck_some.1 h
    obtain ⟨c57,h⟩:=ck_some.1 h
    refine adops_cut 6 (fun K' hK55=>?_)
    try dsimp only [List.drop_succ_cons,List.drop_zero,List.take_succ_cons,List.take_zero]
    simp only [go_sem,c52,hb54]
    repeat with_reducible refine zN ?_
    refine hK55 _ ?_
    as_aux_lemma =>
     obtain ⟨c59,h⟩:=ck_some.1 h
     have hx60:(thread.toNat*8)<16:=kAt_lt c59
     obtain ⟨c61,h⟩:=ck_some.1 h
     obtain ⟨c62,h⟩:=ck_some.1 h
     refine adops_cut 6 (fun K' hK58=>?_)
     try dsimp only [List.drop_succ_cons,List.drop_zero,List.take_succ_cons,List.take_zero]
     simp only [go_sem,c52,hb54,c59]
     repeat with_reducible refine zN ?_
     refine hK58 _ ?_
     as_aux_lemma =>
      refine adops_cut 1 (fun K' hK63=>?_)
      try dsimp only [List.drop_succ_cons,List.drop_zero,List.take_succ_cons,List.take_zero]
      simp only [go_sem,c52,hb54,c59]
      repeat with_reducible refine zN ?_
      refine hK63 _ ?_
      refine adops_nil ?_
      refine athen_n ?_
      refine zV [(1,.int .i64 thread),(2,.bp 2 0),(4,.bp 4 0),(5,.int .i64 (r0.2.1.length:Int)),(6,.bp 2 (30+thread.toNat*8)),(7,.int .i64 ((r0.1.2.getD thread.toNat []).getD (intAt T85 r0.2.2.2.2.1 (thread.toNat*8)).toNat 0))] [(2,.box 88 (.sl (.sl (.pair (.int .i64) (.pair (.int .i64) (.pair (.int .i64) (.int .i64))))) r0.1.1::(.sl (.sl (.int .i64)) r0.1.2::(.own 20::(cellsX T80 r0.2.2.1++(.int .i64 r0.2.2.2.1.1::(.int .i64 r0.2.2.2.1.2.1::(.int .i64 r0.2.2.2.1.2.2::(cellsX T85 r0.2.2.2.2.1++(cellsX T86 r0.2.2.2.2.2.1++(.int .i64 r0.2.2.2.2.2.2::[]))))))))))),(4,.box 88 (.cv (.slice none 0 0)::(.cv (.slice none 0 0)::(.cv (.slice none 0 0)::(cellsX T80 (Ty.dflt T80)++(.int .i64 0::(.int .i64 0::(.int .i64 0::(cellsX T85 (Ty.dflt T85)++(cellsX T86 (Ty.dflt T86)++(.int .i64 0::[]))))))))))),(20,.arr 3 (.int .i64) ((r0.2.1.take r0.2.1.length)++[thread]))] gt ?_
      as_aux_lemma =>
       refine zo ?_
       refine zS 5 [(2,.bp 2 0),(4,.bp 4 0),(5,.int .i64 (r0.2.1.length:Int)),(6,.bp 2 (30+thread.toNat*8)),(43,.int .i64 r0.2.2.2.2.2.2),(44,.int .i64 thread),(45,.int .i64 ((r0.1.2.getD thread.toNat []).getD (intAt T85 r0.2.2.2.2.1 (thread.toNat*8)).toNat 0)),(46,.int .i64 (r0.2.1.length:Int))] [(2,.box 88 (.sl (.sl (.pair (.int .i64) (.pair (.int .i64) (.pair (.int .i64) (.int .i64))))) r0.1.1::(.sl (.sl (.int .i64)) r0.1.2::(.own 20::(cellsX T80 r0.2.2.1++(.int .i64 r0.2.2.2.1.1::(.int .i64 r0.2.2.2.1.2.1::(.int .i64 r0.2.2.2.1.2.2::(cellsX T85 r0.2.2.2.2.1++(cellsX T86 r0.2.2.2.2.2.1++(.int .i64 r0.2.2.2.2.2.2::[]))))))))))),(4,.box 88 (.cv (.slice none 0 0)::(.cv (.slice none 0 0)::(.cv (.slice none 0 0)::(cellsX T80 (Ty.dflt T80)++(.int .i64 0::(.int .i64 0::(.int .i64 0::(cellsX T85 (Ty.dflt T85)++(cellsX T86 (Ty.dflt T86)++(.int .i64 0::[]))))))))))),(20,.arr 3 (.int .i64) ((r0.2.1.take r0.2.1.length)++[thread]))] ?_ (h:=by (simp only [go_sem,c52,hb54,c59])<;>(with_reducible and_intros)<;>first|assumption|rfl|omega|(unfold maxLen; omega))
       obtain ⟨c64,h⟩:=ck_some.1 h
       obtain ⟨c65,h⟩:=ck_some.1 h
       obtain ⟨c66,h⟩:=ck_some.1 h
       obtain ⟨c67,h⟩:=ck_some.1 h
       refine zS 5 [(2,.bp 2 0),(4,.bp 4 0),(5,.int .i64 (r0.2.1.length:Int)),(6,.bp 2 (30+thread.toNat*8)),(49,.agg [.int .i64 thread,.int .i64 0,.int .i64 ((r0.1.2.getD thread.toNat []).getD (intAt T85 r0.2.2.2.2.1 (thread.toNat*8)).toNat 0),.int .i64 0,.int .i64 ((2*(r0.2.1.length:Int))+1),.int .i64 0]),(51,.bp 2 (46+r0.2.2.2.2.2.2.toNat*6))] [(2,.box 88 (.sl (.sl (.pair (.int .i64) (.pair (.int .i64) (.pair (.int .i64) (.int .i64))))) r0.1.1::(.sl (.sl (.int .i64)) r0.1.2::(.own 20::(cellsX T80 r0.2.2.1++(.int .i64 r0.2.2.2.1.1::(.int .i64 r0.2.2.2.1.2.1::(.int .i64 r0.2.2.2.1.2.2::(cellsX T85 r0.2.2.2.2.1++(cellsX T86 r0.2.2.2.2.2.1++(.int .i64 r0.2.2.2.2.2.2::[]))))))))))),(4,.box 88 (.cv (.slice none 0 0)::(.cv (.slice none 0 0)::(.cv (.slice none 0 0)::(cellsX T80 (Ty.dflt T80)++(.int .i64 0::(.int .i64 0::(.int .i64 0::(cellsX T85 (Ty.dflt T85)++(cellsX T86 (Ty.dflt T86)++(.int .i64 0::[]))))))))))),(20,.arr 3 (.int .i64) ((r0.2.1.take r0.2.1.length)++[thread]))] ?_ (h:=by (simp only [go_sem,c52,hb54,c59])<;>(with_reducible and_intros)<;>first|assumption|rfl|omega|(unfold maxLen; omega))
       have hx68:((r0.2.2.2.2.2.2.toNat*6)+6)≤36:=by omega
       refine zB [(2,.bp 2 0),(4,.bp 4 0),(5,.int .i64 (r0.2.1.length:Int)),(6,.bp 2 (30+thread.toNat*8))] [(2,.box 88 (.sl (.sl (.pair (.int .i64) (.pair (.int .i64) (.pair (.int .i64) (.int .i64))))) r0.1.1::(.sl (.sl (.int .i64)) r0.1.2::(.own 20::(cellsX T80 r0.2.2.1++(.int .i64 r0.2.2.2.1.1::(.int .i64 r0.2.2.2.1.2.1::(.int .i64 r0.2.2.2.1.2.2::(cellsX T85 r0.2.2.2.2.1++(cellsX T86 (putX T86 (.pair (.int .i64) (.pair (.int .i64) (.pair (.int .i64) (.pair (.int .i64) (.pair (.int .i64) (.int .i64)))))) r0.2.2.2.2.2.1 (r0.2.2.2.2.2.2.toNat*6) (thread,0,((r0.1.2.getD thread.toNat []).getD (intAt T85 r0.2.2.2.2.1 (thread.toNat*8)).toNat 0),0,((2*(r0.2.1.length:Int))+1),0))++(.int .i64 r0.2.2.2.2.2.2::[]))))))))))),(4,.box 88 (.cv (.slice none 0 0)::(.cv (.slice none 0 0)::(.cv (.slice none 0 0)::(cellsX T80 (Ty.dflt T80)++(.int .i64 0::(.int .i64 0::(.int .i64 0::(cellsX T85 (Ty.dflt T85)++(cellsX T86 (Ty.dflt T86)++(.int .i64 0::[]))))))))))),(20,.arr 3 (.int .i64) ((r0.2.1.take r0.2.1.length)++[thread]))] ?_ (h:=by (simp only [go_sem,c52,hb54,c59,hx68])<;>(with_reducible and_intros)<;>first|assumption|rfl|omega|(unfold maxLen; omega))
       refine AW.seq ?_
       refine AW.draw tab_ok mixed_ok [(10,[2])] [] (by decide) (lex_fast (by kernel_rfl)) ?_
       as_aux_lemma =>
        obtain ⟨c70,h⟩:=ck_some.1 h
        have hx71:(thread.toNat*8)<16:=kAt_lt c70
        refine adops_cut 6 (fun K' hK69=>?_)
        try dsimp only [List.drop_succ_cons,List.drop_zero,List.take_succ_cons,List.take_zero]
        simp only [go_sem,c52,hb54,c59,hx68,c70]
        repeat with_reducible refine zN ?_
        refine hK69 _ ?_
        as_aux_lemma =>
         obtain ⟨c73,h⟩:=ck_some.1 h
         have hx74:(thread.toNat*8)+8≤16:=partOK_fit _ (by decide) c73
         refine adops_cut 5 (fun K' hK72=>?_)
         try dsimp only [List.drop_succ_cons,List.drop_zero,List.take_succ_cons,List.take_zero]
         simp only [go_sem,c52,hb54,c59,hx68,c70,c73]
         repeat with_reducible refine zN ?_
         refine hK72 _ ?_
         refine adops_nil ?_
         refine athen_n ?_
         refine zV [(2,.bp 2 0),(4,.bp 4 0),(5,.int .i64 (r0.2.1.length:Int)),(6,.bp 2 (30+thread.toNat*8))] [(2,.box 88 (.sl (.sl (.pair (.int .i64) (.pair (.int .i64) (.pair (.int .i64) (.int .i64))))) r0.1.1::(.sl (.sl (.int .i64)) r0.1.2::(.own 20::(cellsX T80 r0.2.2.1++(.int .i64 r0.2.2.2.1.1::(.int .i64 r0.2.2.2.1.2.1::(.int .i64 r0.2.2.2.1.2.2::(cellsX T85 (putX T85 (.pair (.int .i64) (.pair .bool (.pair (.int .i64) (.pair (.int .i64) (.pair (.int .i64) (.pair (.int .i64) (.pair (.int .i64) (.int .i64)))))))) r0.2.2.2.2.1 (thread.toNat*8) ((intAt T85 r0.2.2.2.2.1 (thread.toNat*8)),true,r0.2.2.2.2.2.2,0,0,1,0,0))++(cellsX T86 (putX T86 (.pair (.int .i64) (.pair (.int .i64) (.pair (.int .i64) (.pair (.int .i64) (.pair (.int .i64) (.int .i64)))))) r0.2.2.2.2.2.1 (r0.2.2.2.2.2.2.toNat*6) (thread,0,((r0.1.2.getD thread.toNat []).getD (intAt T85 r0.2.2.2.2.1 (thread.toNat*8)).toNat 0),0,((2*(r0.2.1.length:Int))+1),0))++(.int .i64 r0.2.2.2.2.2.2::[]))))))))))),(4,.box 88 (.cv (.slice none 0 0)::(.cv (.slice none 0 0)::(.cv (.slice none 0 0)::(cellsX T80 (Ty.dflt T80)++(.int .i64 0::(.int .i64 0::(.int .i64 0::(cellsX T85 (Ty.dflt T85)++(cellsX T86 (Ty.dflt T86)++(.int .i64 0::[]))))))))))),(20,.arr 3 (.int .i64) ((r0.2.1.take r0.2.1.length)++[thread]))] gt ?_
         as_aux_lemma =>
          refine AW.ops ?_
          obtain ⟨c75,h⟩:=ck_some.1 h
          refine zB [(2,.bp 2 0),(4,.bp 4 0),(5,.int .i64 (r0.2.1.length:Int)),(6,.bp 2 (30+thread.toNat*8))] [(2,.box 88 (.sl (.sl (.pair (.int .i64) (.pair (.int .i64) (.pair (.int .i64) (.int .i64))))) r0.1.1::(.sl (.sl (.int .i64)) r0.1.2::(.own 20::(cellsX T80 r0.2.2.1++(.int .i64 r0.2.2.2.1.1::(.int .i64 r0.2.2.2.1.2.1::(.int .i64 r0.2.2.2.1.2.2::(cellsX T85 (putX T85 (.pair (.int .i64) (.pair .bool (.pair (.int .i64) (.pair (.int .i64) (.pair (.int .i64) (.pair (.int .i64) (.pair (.int .i64) (.int .i64)))))))) r0.2.2.2.2.1 (thread.toNat*8) ((intAt T85 r0.2.2.2.2.1 (thread.toNat*8)),true,r0.2.2.2.2.2.2,0,0,1,0,0))++(cellsX T86 (putX T86 (.pair (.int .i64) (.pair (.int .i64) (.pair (.int .i64) (.pair (.int .i64) (.pair (.int .i64) (.int .i64)))))) r0.2.2.2.2.2.1 (r0.2.2.2.2.2.2.toNat*6) (thread,0,((r0.1.2.getD thread.toNat []).getD (intAt T85 r0.2.2.2.2.1 (thread.toNat*8)).toNat 0),0,((2*(r0.2.1.length:Int))+1),0))++(.int .i64 (r0.2.2.2.2.2.2+1)::[]))))))))))),(4,.box 88 (.cv (.slice none 0 0)::(.cv (.slice none 0 0)::(.cv (.slice none 0 0)::(cellsX T80 (Ty.dflt T80)++(.int .i64 0::(.int .i64 0::(.int .i64 0::(cellsX T85 (Ty.dflt T85)++(cellsX T86 (Ty.dflt T86)++(.int .i64 0::[]))))))))))),(20,.arr 3 (.int .i64) ((r0.2.1.take r0.2.1.length)++[thread]))] ?_ (h:=by (simp only [go_sem,c52,hb54,c59,hx68,c70,c73])<;>(with_reducible and_intros)<;>first|assumption|rfl|omega|(unfold maxLen; omega))
          exact AW.weaken (zL [] [] []) (hk_code_run_step_k1 _ h)
  ·refine zk ?_
   exact AW.weaken (zL [] [] []) (hk_code_run_step_k1 _ h)
end Go.Proofs.Ytenchhmcjmjlbaa
