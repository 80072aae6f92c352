import Derived.Test.YtenchhmcjmjlbaaCkp
import Derived.Test.YtenchhmcjmjlbaaShk
import Derived.Test.YtenchhmcjmjlbaaCbc3
import Derived.Test.YtenchhmcjmjlbaaCbc5
namespace Go.Proofs.Ytenchhmcjmjlbaa
open Go.RowKit
set_option linter.unusedSimpArgs false
set_option linter.unusedVariables false
set_option linter.constructorNameAsVariable false
set_option maxRecDepth 100000
set_option maxHeartbeats 40000000
theorem hc_code_program_play (p:(List (List (Int×Int×Int×Int)))×(List (List Int))) (schedule:List Int) {r:(List (List (Int×Int×Int×Int)))×(List (List Int))×(List Int)×(El T80)×Int×Int×Int×(El T85)×(El T86)×Int×Bool} (h:code_program_play p schedule=some r):HC Try.prog 108 [] [.agg [.sl (.sl (.pair (.int .i64) (.pair (.int .i64) (.pair (.int .i64) (.int .i64))))) p.1,.sl (.sl (.int .i64)) p.2],.sl (.int .i64) schedule] [(2000,.arr 3 (.int .i64) r.2.2.1)] (.tup [.agg (.sl (.sl (.pair (.int .i64) (.pair (.int .i64) (.pair (.int .i64) (.int .i64))))) r.1::(.sl (.sl (.int .i64)) r.2.1::(.own 2000::(cellsX T80 r.2.2.2.1++(.int .i64 r.2.2.2.2.1::(.int .i64 r.2.2.2.2.2.1::(.int .i64 r.2.2.2.2.2.2.1::(cellsX T85 r.2.2.2.2.2.2.2.1++(cellsX T86 r.2.2.2.2.2.2.2.2.1++(.int .i64 r.2.2.2.2.2.2.2.2.2.1::[])))))))))),.bool r.2.2.2.2.2.2.2.2.2.2]):=by
 unfold code_program_play at h
 refine zH Try.func108 [.cell 4 88,.tmp 5] 31 ?_
 refine zo ?_
 refine zB [(1,.sl (.int .i64) schedule),(2,.bp 2 0),(4,.bp 4 0)] [(2,.box 77 [.sl (.sl (.pair (.int .i64) (.pair (.int .i64) (.pair (.int .i64) (.int .i64))))) p.1,.sl (.sl (.int .i64)) p.2]),(4,.box 88 (.cv (.slice none 0 0)::(.cv (.slice none 0 0)::(.cv (.slice none 0 0)::(cellsX T80 (Ty.dflt T80)++(.int .i64 0::(.int .i64 0::(.int .i64 0::(cellsX T85 (Ty.dflt T85)++(cellsX T86 (Ty.dflt T86)++(.int .i64 0::[])))))))))))] ?_
 refine AW.seq ?_
 refine zo ?_
 refine zB [(1,.sl (.int .i64) schedule),(2,.bp 2 0),(4,.bp 4 0),(11,.bool (decide (12<(schedule.length:Int))))] [(2,.box 77 [.sl (.sl (.pair (.int .i64) (.pair (.int .i64) (.pair (.int .i64) (.int .i64))))) p.1,.sl (.sl (.int .i64)) p.2]),(4,.box 88 (.cv (.slice none 0 0)::(.cv (.slice none 0 0)::(.cv (.slice none 0 0)::(cellsX T80 (Ty.dflt T80)++(.int .i64 0::(.int .i64 0::(.int .i64 0::(cellsX T85 (Ty.dflt T85)++(cellsX T86 (Ty.dflt T86)++(.int .i64 0::[])))))))))))] ?_
 refine zQ h (fun hb1 h=>?_) (fun hb1 h=>?_)
 ·refine zo ?_
  refine zB [(4,.bp 4 0),(5,.bool false)] [(4,.box 88 (.cv (.slice none 0 0)::(.cv (.slice none 0 0)::(.cv (.slice none 0 0)::(cellsX T80 (Ty.dflt T80)++(.int .i64 0::(.int .i64 0::(.int .i64 0::(cellsX T85 (Ty.dflt T85)++(cellsX T86 (Ty.dflt T86)++(.int .i64 0::[])))))))))))] ?_
  refine zr ?_
  obtain rfl:=Option.some.inj h
  exact zR [] [2000] []
 ·refine zk ?_
  refine zo ?_
  refine zB [(1,.sl (.int .i64) schedule),(4,.bp 4 0),(6,.bp 6 0)] [(4,.box 88 (.cv (.slice none 0 0)::(.cv (.slice none 0 0)::(.cv (.slice none 0 0)::(cellsX T80 (Ty.dflt T80)++(.int .i64 0::(.int .i64 0::(.int .i64 0::(cellsX T85 (Ty.dflt T85)++(cellsX T86 (Ty.dflt T86)++(.int .i64 0::[]))))))))))),(6,.box 88 (.sl (.sl (.pair (.int .i64) (.pair (.int .i64) (.pair (.int .i64) (.int .i64))))) p.1::(.sl (.sl (.int .i64)) p.2::(.cv (.slice none 0 0)::(cellsX T80 (Ty.dflt T80)++(.int .i64 0::(.int .i64 0::(.int .i64 0::(cellsX T85 (Ty.dflt T85)++(cellsX T86 (Ty.dflt T86)++(.int .i64 0::[])))))))))))] ?_
  refine AW.have1 (fun b1:(List Int)×(El T80)×Int×Int×Int×(El T85)×(El T86)×Int=>code_program_play_k1 p b1=some r) (fun b1=>⟨fr [(4,.bp 4 0),(6,.bp 6 0)],hpGet [(4,.box 88 (.cv (.slice none 0 0)::(.cv (.slice none 0 0)::(.cv (.slice none 0 0)::(cellsX T80 (Ty.dflt T80)++(.int .i64 0::(.int .i64 0::(.int .i64 0::(cellsX T85 (Ty.dflt T85)++(cellsX T86 (Ty.dflt T86)++(.int .i64 0::[]))))))))))),(6,.box 88 (.sl (.sl (.pair (.int .i64) (.pair (.int .i64) (.pair (.int .i64) (.int .i64))))) p.1::(.sl (.sl (.int .i64)) p.2::(.own 800::(cellsX T80 b1.2.1++(.int .i64 b1.2.2.1::(.int .i64 b1.2.2.2.1::(.int .i64 b1.2.2.2.2.1::(cellsX T85 b1.2.2.2.2.2.1++(cellsX T86 b1.2.2.2.2.2.2.1++(.int .i64 b1.2.2.2.2.2.2.2::[]))))))))))),(800,.arr 3 (.int .i64) b1.1)],gt⟩) (fun b1 h=>?_) (fun hk_code_program_play_k1=>?_)
  ·as_aux_lemma =>
    unfold code_program_play_k1 at h
    refine zo ?_
    refine zB [(4,.bp 4 0),(5,.bool true)] [(4,.box 88 (.sl (.sl (.pair (.int .i64) (.pair (.int .i64) (.pair (.int .i64) (.int .i64))))) p.1::(.sl (.sl (.int .i64)) p.2::(.own 800::(cellsX T80 b1.2.1++(.int .i64 b1.2.2.1::(.int .i64 b1.2.2.2.1::(.int .i64 b1.2.2.2.2.1::(cellsX T85 b1.2.2.2.2.2.1++(cellsX T86 b1.2.2.2.2.2.2.1++(.int .i64 b1.2.2.2.2.2.2.2::[]))))))))))),(800,.arr 3 (.int .i64) b1.1)] ?_
    refine AW.ret ?_
    obtain rfl:=Option.some.inj h
    exact zR [] [] [(2000,800)]
  ·refine AW.seq ?_
   refine zo ?_
   refine zB [(4,.bp 4 0),(6,.bp 6 0),(15,.sl (.int .i64) schedule),(16,.int .i64 (schedule.length:Int)),(17,.int .i64 0)] [(4,.box 88 (.cv (.slice none 0 0)::(.cv (.slice none 0 0)::(.cv (.slice none 0 0)::(cellsX T80 (Ty.dflt T80)++(.int .i64 0::(.int .i64 0::(.int .i64 0::(cellsX T85 (Ty.dflt T85)++(cellsX T86 (Ty.dflt T86)++(.int .i64 0::[]))))))))))),(6,.box 88 (.sl (.sl (.pair (.int .i64) (.pair (.int .i64) (.pair (.int .i64) (.int .i64))))) p.1::(.sl (.sl (.int .i64)) p.2::(.cv (.slice none 0 0)::(cellsX T80 (Ty.dflt T80)++(.int .i64 0::(.int .i64 0::(.int .i64 0::(cellsX T85 (Ty.dflt T85)++(cellsX T86 (Ty.dflt T86)++(.int .i64 0::[])))))))))))] ?_
   refine AW.block ?_
   obtain ⟨rv6,hw2,ho3⟩:=Option.bind_eq_some_iff.1 h
   refine AW.loopO (code_program_play_b1 p schedule) (fun st1=>⟨fr [(4,.bp 4 0),(6,.bp 6 0),(15,.sl (.int .i64) schedule),(16,.int .i64 (schedule.length:Int)),(17,.int .i64 st1.2.2.2.2.2.2.2.2)],hpGet [(4,.box 88 (.cv (.slice none 0 0)::(.cv (.slice none 0 0)::(.cv (.slice none 0 0)::(cellsX T80 (Ty.dflt T80)++(.int .i64 0::(.int .i64 0::(.int .i64 0::(cellsX T85 (Ty.dflt T85)++(cellsX T86 (Ty.dflt T86)++(.int .i64 0::[]))))))))))),(6,.box 88 (.sl (.sl (.pair (.int .i64) (.pair (.int .i64) (.pair (.int .i64) (.int .i64))))) p.1::(.sl (.sl (.int .i64)) p.2::(.own 800::(cellsX T80 st1.2.1++(.int .i64 st1.2.2.1::(.int .i64 st1.2.2.2.1::(.int .i64 st1.2.2.2.2.1::(cellsX T85 st1.2.2.2.2.2.1++(cellsX T86 st1.2.2.2.2.2.2.1++(.int .i64 st1.2.2.2.2.2.2.2.1::[]))))))))))),(800,.arr 3 (.int .i64) st1.1)],gt⟩) ([],(Ty.dflt T80),0,0,0,(Ty.dflt T85),(Ty.dflt T86),0,0) hw2 (zL [] [800] []) ?_
   as_aux_lemma =>
    intro st1 x5 h hd4
    unfold code_program_play_b1 at h
    refine zo ?_
    refine zB [(4,.bp 4 0),(6,.bp 6 0),(15,.sl (.int .i64) schedule),(16,.int .i64 (schedule.length:Int)),(17,.int .i64 st1.2.2.2.2.2.2.2.2),(18,.bool (decide (st1.2.2.2.2.2.2.2.2<(schedule.length:Int))))] [(4,.box 88 (.cv (.slice none 0 0)::(.cv (.slice none 0 0)::(.cv (.slice none 0 0)::(cellsX T80 (Ty.dflt T80)++(.int .i64 0::(.int .i64 0::(.int .i64 0::(cellsX T85 (Ty.dflt T85)++(cellsX T86 (Ty.dflt T86)++(.int .i64 0::[]))))))))))),(6,.box 88 (.sl (.sl (.pair (.int .i64) (.pair (.int .i64) (.pair (.int .i64) (.int .i64))))) p.1::(.sl (.sl (.int .i64)) p.2::(.own 800::(cellsX T80 st1.2.1++(.int .i64 st1.2.2.1::(.int .i64 st1.2.2.2.1::(.int .i64 st1.2.2.2.2.1::(cellsX T85 st1.2.2.2.2.2.1++(cellsX T86 st1.2.2.2.2.2.2.1++(.int .i64 st1.2.2.2.2.2.2.2.1::[]))))))))))),(800,.arr 3 (.int .i64) st1.1)] ?_
    refine AW.seq ?_
    refine zQ h (fun hb7 h=>?_) (fun hb7 h=>?_)
    ·refine zk ?_
     refine AW.seq ?_
     refine AW.block ?_
     refine zo ?_
     obtain ⟨c8,h⟩:=ck_some.1 h
     obtain ⟨c9,h⟩:=ck_some.1 h
     refine zB [(4,.bp 4 0),(6,.bp 6 0),(8,.int .i64 (schedule.getD st1.2.2.2.2.2.2.2.2.toNat 0)),(15,.sl (.int .i64) schedule),(16,.int .i64 (schedule.length:Int)),(17,.int .i64 st1.2.2.2.2.2.2.2.2)] [(4,.box 88 (.cv (.slice none 0 0)::(.cv (.slice none 0 0)::(.cv (.slice none 0 0)::(cellsX T80 (Ty.dflt T80)++(.int .i64 0::(.int .i64 0::(.int .i64 0::(cellsX T85 (Ty.dflt T85)++(cellsX T86 (Ty.dflt T86)++(.int .i64 0::[]))))))))))),(6,.box 88 (.sl (.sl (.pair (.int .i64) (.pair (.int .i64) (.pair (.int .i64) (.int .i64))))) p.1::(.sl (.sl (.int .i64)) p.2::(.own 800::(cellsX T80 st1.2.1++(.int .i64 st1.2.2.1::(.int .i64 st1.2.2.2.1::(.int .i64 st1.2.2.2.2.1::(cellsX T85 st1.2.2.2.2.2.1++(cellsX T86 st1.2.2.2.2.2.2.1++(.int .i64 st1.2.2.2.2.2.2.2.1::[]))))))))))),(800,.arr 3 (.int .i64) st1.1)] ?_
     refine AW.seq ?_
     refine zo ?_
     refine zS 2 [(4,.bp 4 0),(6,.bp 6 0),(8,.int .i64 (schedule.getD st1.2.2.2.2.2.2.2.2.toNat 0)),(15,.sl (.int .i64) schedule),(16,.int .i64 (schedule.length:Int)),(17,.int .i64 st1.2.2.2.2.2.2.2.2),(21,.agg (.sl (.sl (.pair (.int .i64) (.pair (.int .i64) (.pair (.int .i64) (.int .i64))))) p.1::(.sl (.sl (.int .i64)) p.2::(.own 800::(cellsX T80 st1.2.1++(.int .i64 st1.2.2.1::(.int .i64 st1.2.2.2.1::(.int .i64 st1.2.2.2.2.1::(cellsX T85 st1.2.2.2.2.2.1++(cellsX T86 st1.2.2.2.2.2.2.1++(.int .i64 st1.2.2.2.2.2.2.2.1::[]))))))))))),(22,.int .i64 (schedule.getD st1.2.2.2.2.2.2.2.2.toNat 0))] [(4,.box 88 (.cv (.slice none 0 0)::(.cv (.slice none 0 0)::(.cv (.slice none 0 0)::(cellsX T80 (Ty.dflt T80)++(.int .i64 0::(.int .i64 0::(.int .i64 0::(cellsX T85 (Ty.dflt T85)++(cellsX T86 (Ty.dflt T86)++(.int .i64 0::[]))))))))))),(6,.box 88 (.sl (.sl (.pair (.int .i64) (.pair (.int .i64) (.pair (.int .i64) (.int .i64))))) p.1::(.sl (.sl (.int .i64)) p.2::(.own 800::(cellsX T80 st1.2.1++(.int .i64 st1.2.2.1::(.int .i64 st1.2.2.2.1::(.int .i64 st1.2.2.2.2.1::(cellsX T85 st1.2.2.2.2.2.1++(cellsX T86 st1.2.2.2.2.2.2.1++(.int .i64 st1.2.2.2.2.2.2.2.1::[]))))))))))),(800,.arr 3 (.int .i64) st1.1)] ?_
     obtain ⟨v0,hv10,h⟩:=Option.bind_eq_some_iff.1 h
     refine zC [800] [] (hc_code_run_hasLine (p,st1.1,st1.2.1,(st1.2.2.1,st1.2.2.2.1,st1.2.2.2.2.1),st1.2.2.2.2.2.1,st1.2.2.2.2.2.2.1,st1.2.2.2.2.2.2.2.1) (schedule.getD st1.2.2.2.2.2.2.2.2.toNat 0) hv10) [(4,.bp 4 0),(6,.bp 6 0),(8,.int .i64 (schedule.getD st1.2.2.2.2.2.2.2.2.toNat 0)),(15,.sl (.int .i64) schedule),(16,.int .i64 (schedule.length:Int)),(17,.int .i64 st1.2.2.2.2.2.2.2.2),(23,.bool v0)] [(4,.box 88 (.cv (.slice none 0 0)::(.cv (.slice none 0 0)::(.cv (.slice none 0 0)::(cellsX T80 (Ty.dflt T80)++(.int .i64 0::(.int .i64 0::(.int .i64 0::(cellsX T85 (Ty.dflt T85)++(cellsX T86 (Ty.dflt T86)++(.int .i64 0::[]))))))))))),(6,.box 88 (.sl (.sl (.pair (.int .i64) (.pair (.int .i64) (.pair (.int .i64) (.int .i64))))) p.1::(.sl (.sl (.int .i64)) p.2::(.own 800::(cellsX T80 st1.2.1++(.int .i64 st1.2.2.1::(.int .i64 st1.2.2.2.1::(.int .i64 st1.2.2.2.2.1::(cellsX T85 st1.2.2.2.2.2.1++(cellsX T86 st1.2.2.2.2.2.2.1++(.int .i64 st1.2.2.2.2.2.2.2.1::[]))))))))))),(800,.arr 3 (.int .i64) st1.1)] ?_
     refine zB [(4,.bp 4 0),(6,.bp 6 0),(8,.int .i64 (schedule.getD st1.2.2.2.2.2.2.2.2.toNat 0)),(15,.sl (.int .i64) schedule),(16,.int .i64 (schedule.length:Int)),(17,.int .i64 st1.2.2.2.2.2.2.2.2),(24,.bool (!v0))] [(4,.box 88 (.cv (.slice none 0 0)::(.cv (.slice none 0 0)::(.cv (.slice none 0 0)::(cellsX T80 (Ty.dflt T80)++(.int .i64 0::(.int .i64 0::(.int .i64 0::(cellsX T85 (Ty.dflt T85)++(cellsX T86 (Ty.dflt T86)++(.int .i64 0::[]))))))))))),(6,.box 88 (.sl (.sl (.pair (.int .i64) (.pair (.int .i64) (.pair (.int .i64) (.int .i64))))) p.1::(.sl (.sl (.int .i64)) p.2::(.own 800::(cellsX T80 st1.2.1++(.int .i64 st1.2.2.1::(.int .i64 st1.2.2.2.1::(.int .i64 st1.2.2.2.2.1::(cellsX T85 st1.2.2.2.2.2.1++(cellsX T86 st1.2.2.2.2.2.2.1++(.int .i64 st1.2.2.2.2.2.2.2.1::[]))))))))))),(800,.arr 3 (.int .i64) st1.1)] ?_
     refine zQ h (fun hb11 h=>?_) (fun hb11 h=>?_)
     ·refine zo ?_
      refine zB [(4,.bp 4 0),(5,.bool false)] [(4,.box 88 (.cv (.slice none 0 0)::(.cv (.slice none 0 0)::(.cv (.slice none 0 0)::(cellsX T80 (Ty.dflt T80)++(.int .i64 0::(.int .i64 0::(.int .i64 0::(cellsX T85 (Ty.dflt T85)++(cellsX T86 (Ty.dflt T86)++(.int .i64 0::[])))))))))))] ?_
      refine zr ?_
      refine ablock_r ?_
      refine athen_r ?_
      obtain rfl:=Option.some.inj h
      try rw [← hd4 _ rfl] at ho3
      have h:=ho3
      try simp only at h
      refine athen_r ?_
      refine ablock_r ?_
      refine athen_r ?_
      obtain rfl:=Option.some.inj h
      exact zR [] [2000] []
     ·refine zk ?_
      refine AW.ops ?_
      refine zS 2 [(4,.bp 4 0),(6,.bp 6 0),(15,.sl (.int .i64) schedule),(16,.int .i64 (schedule.length:Int)),(17,.int .i64 st1.2.2.2.2.2.2.2.2),(26,.agg (.sl (.sl (.pair (.int .i64) (.pair (.int .i64) (.pair (.int .i64) (.int .i64))))) p.1::(.sl (.sl (.int .i64)) p.2::(.own 800::(cellsX T80 st1.2.1++(.int .i64 st1.2.2.1::(.int .i64 st1.2.2.2.1::(.int .i64 st1.2.2.2.2.1::(cellsX T85 st1.2.2.2.2.2.1++(cellsX T86 st1.2.2.2.2.2.2.1++(.int .i64 st1.2.2.2.2.2.2.2.1::[]))))))))))),(27,.int .i64 (schedule.getD st1.2.2.2.2.2.2.2.2.toNat 0))] [(4,.box 88 (.cv (.slice none 0 0)::(.cv (.slice none 0 0)::(.cv (.slice none 0 0)::(cellsX T80 (Ty.dflt T80)++(.int .i64 0::(.int .i64 0::(.int .i64 0::(cellsX T85 (Ty.dflt T85)++(cellsX T86 (Ty.dflt T86)++(.int .i64 0::[]))))))))))),(6,.box 88 (.sl (.sl (.pair (.int .i64) (.pair (.int .i64) (.pair (.int .i64) (.int .i64))))) p.1::(.sl (.sl (.int .i64)) p.2::(.own 800::(cellsX T80 st1.2.1++(.int .i64 st1.2.2.1::(.int .i64 st1.2.2.2.1::(.int .i64 st1.2.2.2.2.1::(cellsX T85 st1.2.2.2.2.2.1++(cellsX T86 st1.2.2.2.2.2.2.1++(.int .i64 st1.2.2.2.2.2.2.2.1::[]))))))))))),(800,.arr 3 (.int .i64) st1.1)] ?_
      obtain ⟨v0_2,hv12,h⟩:=Option.bind_eq_some_iff.1 h
      refine zC [800] [] (hc_code_run_step (p,st1.1,st1.2.1,(st1.2.2.1,st1.2.2.2.1,st1.2.2.2.2.1),st1.2.2.2.2.2.1,st1.2.2.2.2.2.2.1,st1.2.2.2.2.2.2.2.1) (schedule.getD st1.2.2.2.2.2.2.2.2.toNat 0) hv12) [(4,.bp 4 0),(6,.bp 6 0),(15,.sl (.int .i64) schedule),(16,.int .i64 (schedule.length:Int)),(17,.int .i64 st1.2.2.2.2.2.2.2.2),(28,.agg (.sl (.sl (.pair (.int .i64) (.pair (.int .i64) (.pair (.int .i64) (.int .i64))))) p.1::(.sl (.sl (.int .i64)) p.2::(.own 38000::(cellsX T80 v0_2.1++(.int .i64 v0_2.2.1::(.int .i64 v0_2.2.2.1::(.int .i64 v0_2.2.2.2.1::(cellsX T85 v0_2.2.2.2.2.1++(cellsX T86 v0_2.2.2.2.2.2.1++(.int .i64 v0_2.2.2.2.2.2.2::[])))))))))))] [(4,.box 88 (.cv (.slice none 0 0)::(.cv (.slice none 0 0)::(.cv (.slice none 0 0)::(cellsX T80 (Ty.dflt T80)++(.int .i64 0::(.int .i64 0::(.int .i64 0::(cellsX T85 (Ty.dflt T85)++(cellsX T86 (Ty.dflt T86)++(.int .i64 0::[]))))))))))),(6,.box 88 (.sl (.sl (.pair (.int .i64) (.pair (.int .i64) (.pair (.int .i64) (.int .i64))))) p.1::(.sl (.sl (.int .i64)) p.2::(.own 800::(cellsX T80 st1.2.1++(.int .i64 st1.2.2.1::(.int .i64 st1.2.2.2.1::(.int .i64 st1.2.2.2.2.1::(cellsX T85 st1.2.2.2.2.2.1++(cellsX T86 st1.2.2.2.2.2.2.1++(.int .i64 st1.2.2.2.2.2.2.2.1::[]))))))))))),(800,.imm (.int .i64) st1.1),(38000,.arr 3 (.int .i64) ((st1.1.take st1.1.length)++[(schedule.getD st1.2.2.2.2.2.2.2.2.toNat 0)]))] ?_
      refine zA [(4,.bp 4 0),(6,.bp 6 0),(15,.sl (.int .i64) schedule),(16,.int .i64 (schedule.length:Int)),(17,.int .i64 st1.2.2.2.2.2.2.2.2)] [(4,.box 88 (.cv (.slice none 0 0)::(.cv (.slice none 0 0)::(.cv (.slice none 0 0)::(cellsX T80 (Ty.dflt T80)++(.int .i64 0::(.int .i64 0::(.int .i64 0::(cellsX T85 (Ty.dflt T85)++(cellsX T86 (Ty.dflt T86)++(.int .i64 0::[]))))))))))),(6,.box 88 (.sl (.sl (.pair (.int .i64) (.pair (.int .i64) (.pair (.int .i64) (.int .i64))))) p.1::(.sl (.sl (.int .i64)) p.2::(.own 38000::(cellsX T80 v0_2.1++(.int .i64 v0_2.2.1::(.int .i64 v0_2.2.2.1::(.int .i64 v0_2.2.2.2.1::(cellsX T85 v0_2.2.2.2.2.1++(cellsX T86 v0_2.2.2.2.2.2.1++(.int .i64 v0_2.2.2.2.2.2.2::[]))))))))))),(38000,.arr 3 (.int .i64) ((st1.1.take st1.1.length)++[(schedule.getD st1.2.2.2.2.2.2.2.2.toNat 0)]))] ?_
      refine ablock_n ?_
      refine athen_n ?_
      refine AW.ops ?_
      obtain ⟨c13,h⟩:=ck_some.1 h
      refine zA [(4,.bp 4 0),(6,.bp 6 0),(15,.sl (.int .i64) schedule),(16,.int .i64 (schedule.length:Int)),(17,.int .i64 (st1.2.2.2.2.2.2.2.2+1))] [(4,.box 88 (.cv (.slice none 0 0)::(.cv (.slice none 0 0)::(.cv (.slice none 0 0)::(cellsX T80 (Ty.dflt T80)++(.int .i64 0::(.int .i64 0::(.int .i64 0::(cellsX T85 (Ty.dflt T85)++(cellsX T86 (Ty.dflt T86)++(.int .i64 0::[]))))))))))),(6,.box 88 (.sl (.sl (.pair (.int .i64) (.pair (.int .i64) (.pair (.int .i64) (.int .i64))))) p.1::(.sl (.sl (.int .i64)) p.2::(.own 38000::(cellsX T80 v0_2.1++(.int .i64 v0_2.2.1::(.int .i64 v0_2.2.2.1::(.int .i64 v0_2.2.2.2.1::(cellsX T85 v0_2.2.2.2.2.1++(cellsX T86 v0_2.2.2.2.2.2.1++(.int .i64 v0_2.2.2.2.2.2.2::[]))))))))))),(38000,.arr 3 (.int .i64) ((st1.1.take st1.1.length)++[(schedule.getD st1.2.2.2.2.2.2.2.2.toNat 0)]))] ?_
      obtain rfl:=Option.some.inj h
      exact ⟨_,rfl,zL [] [] [(800,38000)]⟩
    ·refine AW.exit ?_
     refine athen_e ?_
     obtain rfl:=Option.some.inj h
     rw [← hd4 _ rfl] at ho3
     have h:=ho3
     try simp only at h
     refine athen_e ?_
     refine ablock_s ?_
     refine athen_n ?_
     exact AW.weaken (zL [] [] []) (hk_code_program_play_k1 _ h)
theorem hc_code_played (c:List (List (Int×Int×Int×Int))) (use:List (List Int)) (schedule:List Int) {r:(List (List (Int×Int×Int×Int)))×(List (List Int))×(List Int)×(El T80)×Int×Int×Int×(El T85)×(El T86)×Int×Int} (h:code_played c use schedule=some r):HC Try.prog 49 [] [.sl (.sl (.pair (.int .i64) (.pair (.int .i64) (.pair (.int .i64) (.int .i64))))) c,.sl (.sl (.int .i64)) use,.sl (.int .i64) schedule] [(2000,.arr 3 (.int .i64) r.2.2.1)] (.tup [.agg (.sl (.sl (.pair (.int .i64) (.pair (.int .i64) (.pair (.int .i64) (.int .i64))))) r.1::(.sl (.sl (.int .i64)) r.2.1::(.own 2000::(cellsX T80 r.2.2.2.1++(.int .i64 r.2.2.2.2.1::(.int .i64 r.2.2.2.2.2.1::(.int .i64 r.2.2.2.2.2.2.1::(cellsX T85 r.2.2.2.2.2.2.2.1++(cellsX T86 r.2.2.2.2.2.2.2.2.1++(.int .i64 r.2.2.2.2.2.2.2.2.2.1::[])))))))))),.int .i64 r.2.2.2.2.2.2.2.2.2.2]):=by
 unfold code_played at h
 refine zH Try.func49 [.cell 6 88,.tmp 7] 30 ?_
 refine zo ?_
 refine zB [(0,.sl (.sl (.pair (.int .i64) (.pair (.int .i64) (.pair (.int .i64) (.int .i64))))) c),(1,.sl (.sl (.int .i64)) use),(2,.sl (.int .i64) schedule),(6,.bp 6 0)] [(6,.box 88 (.cv (.slice none 0 0)::(.cv (.slice none 0 0)::(.cv (.slice none 0 0)::(cellsX T80 (Ty.dflt T80)++(.int .i64 0::(.int .i64 0::(.int .i64 0::(cellsX T85 (Ty.dflt T85)++(cellsX T86 (Ty.dflt T86)++(.int .i64 0::[])))))))))))] ?_
 refine AW.seq ?_
 refine zo ?_
 refine zS 2 [(0,.sl (.sl (.pair (.int .i64) (.pair (.int .i64) (.pair (.int .i64) (.int .i64))))) c),(1,.sl (.sl (.int .i64)) use),(2,.sl (.int .i64) schedule),(6,.bp 6 0),(11,.sl (.sl (.pair (.int .i64) (.pair (.int .i64) (.pair (.int .i64) (.int .i64))))) c),(12,.sl (.sl (.int .i64)) use)] [(6,.box 88 (.cv (.slice none 0 0)::(.cv (.slice none 0 0)::(.cv (.slice none 0 0)::(cellsX T80 (Ty.dflt T80)++(.int .i64 0::(.int .i64 0::(.int .i64 0::(cellsX T85 (Ty.dflt T85)++(cellsX T86 (Ty.dflt T86)++(.int .i64 0::[])))))))))))] ?_
 obtain ⟨v0,hv1,h⟩:=Option.bind_eq_some_iff.1 h
 refine zC [] [] (hc_code_checkUse c use hv1) [(0,.sl (.sl (.pair (.int .i64) (.pair (.int .i64) (.pair (.int .i64) (.int .i64))))) c),(1,.sl (.sl (.int .i64)) use),(2,.sl (.int .i64) schedule),(6,.bp 6 0),(13,.int .i64 v0)] [(6,.box 88 (.cv (.slice none 0 0)::(.cv (.slice none 0 0)::(.cv (.slice none 0 0)::(cellsX T80 (Ty.dflt T80)++(.int .i64 0::(.int .i64 0::(.int .i64 0::(cellsX T85 (Ty.dflt T85)++(cellsX T86 (Ty.dflt T86)++(.int .i64 0::[])))))))))))] ?_
 refine zB [(0,.sl (.sl (.pair (.int .i64) (.pair (.int .i64) (.pair (.int .i64) (.int .i64))))) c),(1,.sl (.sl (.int .i64)) use),(2,.sl (.int .i64) schedule),(6,.bp 6 0),(8,.int .i64 v0)] [(6,.box 88 (.cv (.slice none 0 0)::(.cv (.slice none 0 0)::(.cv (.slice none 0 0)::(cellsX T80 (Ty.dflt T80)++(.int .i64 0::(.int .i64 0::(.int .i64 0::(cellsX T85 (Ty.dflt T85)++(cellsX T86 (Ty.dflt T86)++(.int .i64 0::[])))))))))))] ?_
 refine zo ?_
 refine zB [(0,.sl (.sl (.pair (.int .i64) (.pair (.int .i64) (.pair (.int .i64) (.int .i64))))) c),(1,.sl (.sl (.int .i64)) use),(2,.sl (.int .i64) schedule),(6,.bp 6 0),(8,.int .i64 v0),(15,.bool (!(decide (v0=0))))] [(6,.box 88 (.cv (.slice none 0 0)::(.cv (.slice none 0 0)::(.cv (.slice none 0 0)::(cellsX T80 (Ty.dflt T80)++(.int .i64 0::(.int .i64 0::(.int .i64 0::(cellsX T85 (Ty.dflt T85)++(cellsX T86 (Ty.dflt T86)++(.int .i64 0::[])))))))))))] ?_
 refine zQ h (fun hb2 h=>?_) (fun hb2 h=>?_)
 ·refine zo ?_
  refine zB [(6,.bp 6 0),(7,.int .i64 v0)] [(6,.box 88 (.cv (.slice none 0 0)::(.cv (.slice none 0 0)::(.cv (.slice none 0 0)::(cellsX T80 (Ty.dflt T80)++(.int .i64 0::(.int .i64 0::(.int .i64 0::(cellsX T85 (Ty.dflt T85)++(cellsX T86 (Ty.dflt T86)++(.int .i64 0::[])))))))))))] ?_
  refine zr ?_
  obtain rfl:=Option.some.inj h
  exact zR [] [2000] []
 ·refine zk ?_
  refine zo ?_
  refine zS 4 [(6,.bp 6 0),(21,.agg [.sl (.sl (.pair (.int .i64) (.pair (.int .i64) (.pair (.int .i64) (.int .i64))))) c,.sl (.sl (.int .i64)) use]),(22,.sl (.int .i64) schedule)] [(6,.box 88 (.cv (.slice none 0 0)::(.cv (.slice none 0 0)::(.cv (.slice none 0 0)::(cellsX T80 (Ty.dflt T80)++(.int .i64 0::(.int .i64 0::(.int .i64 0::(cellsX T85 (Ty.dflt T85)++(cellsX T86 (Ty.dflt T86)++(.int .i64 0::[])))))))))))] ?_
  obtain ⟨v0_2,hv3,h⟩:=Option.bind_eq_some_iff.1 h
  refine zC [] [] (hc_code_program_play (c,use) schedule hv3) [(6,.bp 6 0),(23,.tup [.agg (.sl (.sl (.pair (.int .i64) (.pair (.int .i64) (.pair (.int .i64) (.int .i64))))) v0_2.1::(.sl (.sl (.int .i64)) v0_2.2.1::(.own 33000::(cellsX T80 v0_2.2.2.2.1++(.int .i64 v0_2.2.2.2.2.1::(.int .i64 v0_2.2.2.2.2.2.1::(.int .i64 v0_2.2.2.2.2.2.2.1::(cellsX T85 v0_2.2.2.2.2.2.2.2.1++(cellsX T86 v0_2.2.2.2.2.2.2.2.2.1++(.int .i64 v0_2.2.2.2.2.2.2.2.2.2.1::[])))))))))),.bool v0_2.2.2.2.2.2.2.2.2.2.2])] [(6,.box 88 (.cv (.slice none 0 0)::(.cv (.slice none 0 0)::(.cv (.slice none 0 0)::(cellsX T80 (Ty.dflt T80)++(.int .i64 0::(.int .i64 0::(.int .i64 0::(cellsX T85 (Ty.dflt T85)++(cellsX T86 (Ty.dflt T86)++(.int .i64 0::[]))))))))))),(33000,.arr 3 (.int .i64) v0_2.2.2.1)] ?_
  refine zS 5 [(6,.bp 6 0),(9,.bp 9 0),(25,.bool v0_2.2.2.2.2.2.2.2.2.2.2)] [(6,.box 88 (.cv (.slice none 0 0)::(.cv (.slice none 0 0)::(.cv (.slice none 0 0)::(cellsX T80 (Ty.dflt T80)++(.int .i64 0::(.int .i64 0::(.int .i64 0::(cellsX T85 (Ty.dflt T85)++(cellsX T86 (Ty.dflt T86)++(.int .i64 0::[]))))))))))),(9,.box 88 (.sl (.sl (.pair (.int .i64) (.pair (.int .i64) (.pair (.int .i64) (.int .i64))))) v0_2.1::(.sl (.sl (.int .i64)) v0_2.2.1::(.own 33000::(cellsX T80 v0_2.2.2.2.1++(.int .i64 v0_2.2.2.2.2.1::(.int .i64 v0_2.2.2.2.2.2.1::(.int .i64 v0_2.2.2.2.2.2.2.1::(cellsX T85 v0_2.2.2.2.2.2.2.2.1++(cellsX T86 v0_2.2.2.2.2.2.2.2.2.1++(.int .i64 v0_2.2.2.2.2.2.2.2.2.2.1::[]))))))))))),(33000,.arr 3 (.int .i64) v0_2.2.2.1)] ?_
  refine zB [(6,.bp 6 0),(9,.bp 9 0),(10,.bool v0_2.2.2.2.2.2.2.2.2.2.2)] [(6,.box 88 (.cv (.slice none 0 0)::(.cv (.slice none 0 0)::(.cv (.slice none 0 0)::(cellsX T80 (Ty.dflt T80)++(.int .i64 0::(.int .i64 0::(.int .i64 0::(cellsX T85 (Ty.dflt T85)++(cellsX T86 (Ty.dflt T86)++(.int .i64 0::[]))))))))))),(9,.box 88 (.sl (.sl (.pair (.int .i64) (.pair (.int .i64) (.pair (.int .i64) (.int .i64))))) v0_2.1::(.sl (.sl (.int .i64)) v0_2.2.1::(.own 33000::(cellsX T80 v0_2.2.2.2.1++(.int .i64 v0_2.2.2.2.2.1::(.int .i64 v0_2.2.2.2.2.2.1::(.int .i64 v0_2.2.2.2.2.2.2.1::(cellsX T85 v0_2.2.2.2.2.2.2.2.1++(cellsX T86 v0_2.2.2.2.2.2.2.2.2.1++(.int .i64 v0_2.2.2.2.2.2.2.2.2.2.1::[]))))))))))),(33000,.arr 3 (.int .i64) v0_2.2.2.1)] ?_
  refine AW.seq ?_
  refine zo ?_
  refine zB [(6,.bp 6 0),(9,.bp 9 0),(27,.bool (!v0_2.2.2.2.2.2.2.2.2.2.2))] [(6,.box 88 (.cv (.slice none 0 0)::(.cv (.slice none 0 0)::(.cv (.slice none 0 0)::(cellsX T80 (Ty.dflt T80)++(.int .i64 0::(.int .i64 0::(.int .i64 0::(cellsX T85 (Ty.dflt T85)++(cellsX T86 (Ty.dflt T86)++(.int .i64 0::[]))))))))))),(9,.box 88 (.sl (.sl (.pair (.int .i64) (.pair (.int .i64) (.pair (.int .i64) (.int .i64))))) v0_2.1::(.sl (.sl (.int .i64)) v0_2.2.1::(.own 33000::(cellsX T80 v0_2.2.2.2.1++(.int .i64 v0_2.2.2.2.2.1::(.int .i64 v0_2.2.2.2.2.2.1::(.int .i64 v0_2.2.2.2.2.2.2.1::(cellsX T85 v0_2.2.2.2.2.2.2.2.1++(cellsX T86 v0_2.2.2.2.2.2.2.2.2.1++(.int .i64 v0_2.2.2.2.2.2.2.2.2.2.1::[]))))))))))),(33000,.arr 3 (.int .i64) v0_2.2.2.1)] ?_
  refine zQ h (fun hb4 h=>?_) (fun hb4 h=>?_)
  ·refine zo ?_
   refine zB [(6,.bp 6 0),(7,.int .i64 2)] [(6,.box 88 (.cv (.slice none 0 0)::(.cv (.slice none 0 0)::(.cv (.slice none 0 0)::(cellsX T80 (Ty.dflt T80)++(.int .i64 0::(.int .i64 0::(.int .i64 0::(cellsX T85 (Ty.dflt T85)++(cellsX T86 (Ty.dflt T86)++(.int .i64 0::[])))))))))))] ?_
   refine zr ?_
   obtain rfl:=Option.some.inj h
   exact zR [] [2000] []
  ·refine zk ?_
   refine zo ?_
   refine zB [(6,.bp 6 0),(7,.int .i64 0)] [(6,.box 88 (.sl (.sl (.pair (.int .i64) (.pair (.int .i64) (.pair (.int .i64) (.int .i64))))) v0_2.1::(.sl (.sl (.int .i64)) v0_2.2.1::(.own 33000::(cellsX T80 v0_2.2.2.2.1++(.int .i64 v0_2.2.2.2.2.1::(.int .i64 v0_2.2.2.2.2.2.1::(.int .i64 v0_2.2.2.2.2.2.2.1::(cellsX T85 v0_2.2.2.2.2.2.2.2.1++(cellsX T86 v0_2.2.2.2.2.2.2.2.2.1++(.int .i64 v0_2.2.2.2.2.2.2.2.2.2.1::[]))))))))))),(33000,.arr 3 (.int .i64) v0_2.2.2.1)] ?_
   refine AW.ret ?_
   obtain rfl:=Option.some.inj h
   exact zR [] [] [(2000,33000)]
theorem hc_slices_Clone (s:ZH) {r:ZH} (h:slices_Clone s=some r):HC Try.prog 109 [] [.sl (.pair (.int .i64) (.pair (.int .i64) (.pair (.int .i64) (.pair (.int .i64) (.pair (.int .i64) (.int .i64)))))) s] [(2000,.arr 68 (.pair (.int .i64) (.pair (.int .i64) (.pair (.int .i64) (.pair (.int .i64) (.pair (.int .i64) (.int .i64)))))) r)] (.own 2000):=by
 unfold slices_Clone at h
 refine zH Try.func109 [.tmp 2] 8 ?_
 refine zo ?_
 refine zB [(0,.sl (.pair (.int .i64) (.pair (.int .i64) (.pair (.int .i64) (.pair (.int .i64) (.pair (.int .i64) (.int .i64)))))) s)] [] ?_
 refine AW.seq ?_
 refine zo ?_
 refine zS 1 [(0,.sl (.pair (.int .i64) (.pair (.int .i64) (.pair (.int .i64) (.pair (.int .i64) (.pair (.int .i64) (.int .i64)))))) s),(3,.sl (.pair (.int .i64) (.pair (.int .i64) (.pair (.int .i64) (.pair (.int .i64) (.pair (.int .i64) (.int .i64)))))) s)] [] ?_
 refine AO.nilEq (neg:=false) tab_ok (by decide) rfl rfl tab_34 rfl rfl rfl (fun hnil1=>?_) ?_
 ·have h:(some [])=some r:=by
   first|(simp only [hnil1] at h ⊢; simpa [ck] using h)|(simp [hnil1,ck] at h ⊢; first|done|exact h)
  refine zT [(0,.sl (.pair (.int .i64) (.pair (.int .i64) (.pair (.int .i64) (.pair (.int .i64) (.pair (.int .i64) (.int .i64)))))) s),(4,.bool true)] [] gt ?_
  refine zB [(0,.sl (.pair (.int .i64) (.pair (.int .i64) (.pair (.int .i64) (.pair (.int .i64) (.pair (.int .i64) (.int .i64)))))) s),(4,.bool true)] [] ?_
  refine AW.cond (b:=true) rfl (fun _=>?_) (fun hb2=>by cases hb2)
  refine zo ?_
  refine zB [(2,.cv (.slice none 0 0))] [] ?_
  refine zr ?_
  obtain rfl:=Option.some.inj h
  exact zR [] [2000] []
 ·refine zT [(0,.sl (.pair (.int .i64) (.pair (.int .i64) (.pair (.int .i64) (.pair (.int .i64) (.pair (.int .i64) (.int .i64)))))) s),(4,.bool false)] [] gt ?_
  refine zB [(0,.sl (.pair (.int .i64) (.pair (.int .i64) (.pair (.int .i64) (.pair (.int .i64) (.pair (.int .i64) (.int .i64)))))) s),(4,.bool false)] [] ?_
  refine AW.cond (b:=false) rfl (fun hb3=>by cases hb3) (fun _=>?_)
  refine zk ?_
  refine zo ?_
  obtain ⟨c4,h⟩:=ck_some.1 h
  refine zB [(2,.own 7)] [(7,.arr 68 (.pair (.int .i64) (.pair (.int .i64) (.pair (.int .i64) (.pair (.int .i64) (.pair (.int .i64) (.int .i64)))))) s)] ?_
  refine AW.ret ?_
  obtain rfl:=Option.some.inj h
  exact zR [] [] [(2000,7)]
theorem hc_code_run_history (r0:((List (List (Int×Int×Int×Int)))×(List (List Int)))×(List Int)×(El T80)×(Int×Int×Int)×(El T85)×(El T86)×Int) {r:ZH} (h:code_run_history r0=some r):HC Try.prog 50 [] [.agg (.sl (.sl (.pair (.int .i64) (.pair (.int .i64) (.pair (.int .i64) (.int .i64))))) r0.1.1::(.sl (.sl (.int .i64)) r0.1.2::(.sl (.int .i64) r0.2.1::(cellsX T80 r0.2.2.1++(.int .i64 r0.2.2.2.1.1::(.int .i64 r0.2.2.2.1.2.1::(.int .i64 r0.2.2.2.1.2.2::(cellsX T85 r0.2.2.2.2.1++(cellsX T86 r0.2.2.2.2.2.1++(.int .i64 r0.2.2.2.2.2.2::[]))))))))))] [(2000,.arr 68 (.pair (.int .i64) (.pair (.int .i64) (.pair (.int .i64) (.pair (.int .i64) (.pair (.int .i64) (.int .i64)))))) r)] (.own 2000):=by
 unfold code_run_history at h
 refine zH Try.func50 [.tmp 2] 8 ?_
 refine zo ?_
 refine zS 1 [(1,.bp 1 0)] [(1,.box 88 (.sl (.sl (.pair (.int .i64) (.pair (.int .i64) (.pair (.int .i64) (.int .i64))))) r0.1.1::(.sl (.sl (.int .i64)) r0.1.2::(.sl (.int .i64) r0.2.1::(cellsX T80 r0.2.2.1++(.int .i64 r0.2.2.2.1.1::(.int .i64 r0.2.2.2.1.2.1::(.int .i64 r0.2.2.2.1.2.2::(cellsX T85 r0.2.2.2.2.1++(cellsX T86 r0.2.2.2.2.2.1++(.int .i64 r0.2.2.2.2.2.2::[])))))))))))] ?_
 refine AO.weaken (s':=⟨fr [(1,.dp (.pair (.pair (.sl (.sl (.pair (.int .i64) (.pair (.int .i64) (.pair (.int .i64) (.int .i64)))))) (.sl (.sl (.int .i64)))) (.pair (.sl (.int .i64)) (.pair T80 (.pair (.pair (.int .i64) (.pair (.int .i64) (.int .i64))) (.pair T85 (.pair T86 (.int .i64))))))) r0 0)],hpGet [],gt⟩) (Wk.boxes [1] rfl rfl (by (simp only [go_sem])<;>(with_reducible and_intros)<;>first|assumption|rfl|omega|(unfold maxLen; omega)) (by (simp only [go_sem])<;>(with_reducible and_intros)<;>first|assumption|rfl|omega|(unfold maxLen; omega))) ?_
 refine zB [(1,.dp (.pair (.pair (.sl (.sl (.pair (.int .i64) (.pair (.int .i64) (.pair (.int .i64) (.int .i64)))))) (.sl (.sl (.int .i64)))) (.pair (.sl (.int .i64)) (.pair T80 (.pair (.pair (.int .i64) (.pair (.int .i64) (.int .i64))) (.pair T85 (.pair T86 (.int .i64))))))) r0 0)] [] ?_
 refine zo ?_
 obtain ⟨c1,h⟩:=ck_some.1 h
 obtain ⟨c2,h⟩:=ck_some.1 h
 refine zS 4 [(6,.sl (.pair (.int .i64) (.pair (.int .i64) (.pair (.int .i64) (.pair (.int .i64) (.pair (.int .i64) (.int .i64)))))) ((listT (.pair (.int .i64) (.pair (.int .i64) (.pair (.int .i64) (.pair (.int .i64) (.pair (.int .i64) (.int .i64)))))) 6 r0.2.2.2.2.2.1).take r0.2.2.2.2.2.2.toNat))] [] ?_
 obtain ⟨v0,hv3,h⟩:=Option.bind_eq_some_iff.1 h
 refine zC [] [] (hc_slices_Clone ((listT (.pair (.int .i64) (.pair (.int .i64) (.pair (.int .i64) (.pair (.int .i64) (.pair (.int .i64) (.int .i64)))))) 6 r0.2.2.2.2.2.1).take r0.2.2.2.2.2.2.toNat) hv3) [(7,.own 17000)] [(17000,.arr 68 (.pair (.int .i64) (.pair (.int .i64) (.pair (.int .i64) (.pair (.int .i64) (.pair (.int .i64) (.int .i64)))))) v0)] ?_
 refine zB [(2,.own 17000)] [(17000,.arr 68 (.pair (.int .i64) (.pair (.int .i64) (.pair (.int .i64) (.pair (.int .i64) (.pair (.int .i64) (.int .i64)))))) v0)] ?_
 refine AW.ret ?_
 obtain rfl:=Option.some.inj h
 exact zR [] [] [(2000,17000)]
theorem hc_code_Run (c:List (List (Int×Int×Int×Int))) (use:List (List Int)) (schedule:List Int) {r:ZH×Int} (h:code_Run c use schedule=some r):HC Try.prog 14 [] [.sl (.sl (.pair (.int .i64) (.pair (.int .i64) (.pair (.int .i64) (.int .i64))))) c,.sl (.sl (.int .i64)) use,.sl (.int .i64) schedule] [(2000,.arr 68 (.pair (.int .i64) (.pair (.int .i64) (.pair (.int .i64) (.pair (.int .i64) (.pair (.int .i64) (.int .i64)))))) r.1)] (.tup [.own 2000,.int .i64 r.2]):=by
 unfold code_Run at h
 refine zH Try.func14 [.tmp 6,.tmp 7] 22 ?_
 refine zo ?_
 refine zB [(0,.sl (.sl (.pair (.int .i64) (.pair (.int .i64) (.pair (.int .i64) (.int .i64))))) c),(1,.sl (.sl (.int .i64)) use),(2,.sl (.int .i64) schedule)] [] ?_
 refine zo ?_
 refine zS 3 [(11,.sl (.sl (.pair (.int .i64) (.pair (.int .i64) (.pair (.int .i64) (.int .i64))))) c),(12,.sl (.sl (.int .i64)) use),(13,.sl (.int .i64) schedule)] [] ?_
 obtain ⟨v0,hv1,h⟩:=Option.bind_eq_some_iff.1 h
 refine zC [] [] (hc_code_played c use schedule hv1) [(14,.tup [.agg (.sl (.sl (.pair (.int .i64) (.pair (.int .i64) (.pair (.int .i64) (.int .i64))))) v0.1::(.sl (.sl (.int .i64)) v0.2.1::(.own 24000::(cellsX T80 v0.2.2.2.1++(.int .i64 v0.2.2.2.2.1::(.int .i64 v0.2.2.2.2.2.1::(.int .i64 v0.2.2.2.2.2.2.1::(cellsX T85 v0.2.2.2.2.2.2.2.1++(cellsX T86 v0.2.2.2.2.2.2.2.2.1++(.int .i64 v0.2.2.2.2.2.2.2.2.2.1::[])))))))))),.int .i64 v0.2.2.2.2.2.2.2.2.2.2])] [(24000,.arr 3 (.int .i64) v0.2.2.1)] ?_
 refine AO.weaken (s':=⟨fr [(14,.tup [.agg (.sl (.sl (.pair (.int .i64) (.pair (.int .i64) (.pair (.int .i64) (.int .i64))))) v0.1::(.sl (.sl (.int .i64)) v0.2.1::(.sl (.int .i64) v0.2.2.1::(cellsX T80 v0.2.2.2.1++(.int .i64 v0.2.2.2.2.1::(.int .i64 v0.2.2.2.2.2.1::(.int .i64 v0.2.2.2.2.2.2.1::(cellsX T85 v0.2.2.2.2.2.2.2.1++(cellsX T86 v0.2.2.2.2.2.2.2.2.1++(.int .i64 v0.2.2.2.2.2.2.2.2.2.1::[])))))))))),.int .i64 v0.2.2.2.2.2.2.2.2.2.2])],hpGet [],gt⟩) (zL [24000] [] []) ?_
 refine zS 5 [(8,.bp 8 0),(16,.int .i64 v0.2.2.2.2.2.2.2.2.2.2)] [(8,.box 88 (.sl (.sl (.pair (.int .i64) (.pair (.int .i64) (.pair (.int .i64) (.int .i64))))) v0.1::(.sl (.sl (.int .i64)) v0.2.1::(.sl (.int .i64) v0.2.2.1::(cellsX T80 v0.2.2.2.1++(.int .i64 v0.2.2.2.2.1::(.int .i64 v0.2.2.2.2.2.1::(.int .i64 v0.2.2.2.2.2.2.1::(cellsX T85 v0.2.2.2.2.2.2.2.1++(cellsX T86 v0.2.2.2.2.2.2.2.2.1++(.int .i64 v0.2.2.2.2.2.2.2.2.2.1::[])))))))))))] ?_
 refine zB [(8,.bp 8 0),(9,.int .i64 v0.2.2.2.2.2.2.2.2.2.2)] [(8,.box 88 (.sl (.sl (.pair (.int .i64) (.pair (.int .i64) (.pair (.int .i64) (.int .i64))))) v0.1::(.sl (.sl (.int .i64)) v0.2.1::(.sl (.int .i64) v0.2.2.1::(cellsX T80 v0.2.2.2.1++(.int .i64 v0.2.2.2.2.1::(.int .i64 v0.2.2.2.2.2.1::(.int .i64 v0.2.2.2.2.2.2.1::(cellsX T85 v0.2.2.2.2.2.2.2.1++(cellsX T86 v0.2.2.2.2.2.2.2.2.1++(.int .i64 v0.2.2.2.2.2.2.2.2.2.1::[])))))))))))] ?_
 refine AW.seq ?_
 refine zo ?_
 refine zB [(8,.bp 8 0),(9,.int .i64 v0.2.2.2.2.2.2.2.2.2.2),(18,.bool (!(decide (v0.2.2.2.2.2.2.2.2.2.2=0))))] [(8,.box 88 (.sl (.sl (.pair (.int .i64) (.pair (.int .i64) (.pair (.int .i64) (.int .i64))))) v0.1::(.sl (.sl (.int .i64)) v0.2.1::(.sl (.int .i64) v0.2.2.1::(cellsX T80 v0.2.2.2.1++(.int .i64 v0.2.2.2.2.1::(.int .i64 v0.2.2.2.2.2.1::(.int .i64 v0.2.2.2.2.2.2.1::(cellsX T85 v0.2.2.2.2.2.2.2.1++(cellsX T86 v0.2.2.2.2.2.2.2.2.1++(.int .i64 v0.2.2.2.2.2.2.2.2.2.1::[])))))))))))] ?_
 refine zQ h (fun hb2 h=>?_) (fun hb2 h=>?_)
 ·refine zo ?_
  refine zB [(6,.cv (.slice none 0 0)),(7,.int .i64 v0.2.2.2.2.2.2.2.2.2.2)] [] ?_
  refine zr ?_
  obtain rfl:=Option.some.inj h
  exact zR [] [2000] []
 ·refine zk ?_
  refine zo ?_
  refine zS 1 [(20,.agg (.sl (.sl (.pair (.int .i64) (.pair (.int .i64) (.pair (.int .i64) (.int .i64))))) v0.1::(.sl (.sl (.int .i64)) v0.2.1::(.sl (.int .i64) v0.2.2.1::(cellsX T80 v0.2.2.2.1++(.int .i64 v0.2.2.2.2.1::(.int .i64 v0.2.2.2.2.2.1::(.int .i64 v0.2.2.2.2.2.2.1::(cellsX T85 v0.2.2.2.2.2.2.2.1++(cellsX T86 v0.2.2.2.2.2.2.2.2.1++(.int .i64 v0.2.2.2.2.2.2.2.2.2.1::[])))))))))))] [] ?_
  obtain ⟨v0_2,hv3,h⟩:=Option.bind_eq_some_iff.1 h
  refine zC [] [] (hc_code_run_history ((v0.1,v0.2.1),v0.2.2.1,v0.2.2.2.1,(v0.2.2.2.2.1,v0.2.2.2.2.2.1,v0.2.2.2.2.2.2.1),v0.2.2.2.2.2.2.2.1,v0.2.2.2.2.2.2.2.2.1,v0.2.2.2.2.2.2.2.2.2.1) hv3) [(21,.own 31000)] [(31000,.arr 68 (.pair (.int .i64) (.pair (.int .i64) (.pair (.int .i64) (.pair (.int .i64) (.pair (.int .i64) (.int .i64)))))) v0_2)] ?_
  refine zB [(6,.own 31000),(7,.int .i64 0)] [(31000,.arr 68 (.pair (.int .i64) (.pair (.int .i64) (.pair (.int .i64) (.pair (.int .i64) (.pair (.int .i64) (.int .i64)))))) v0_2)] ?_
  refine AW.ret ?_
  obtain rfl:=Option.some.inj h
  exact zR [] [] [(2000,31000)]
end Go.Proofs.Ytenchhmcjmjlbaa
