import Derived.Test.YtenchhmcjmjlbaaCkp
import Derived.Test.YtenchhmcjmjlbaaShk
import Derived.Test.YtenchhmcjmjlbaaCec2
import Derived.Test.YtenchhmcjmjlbaaCec4
namespace Go.Proofs.Ytenchhmcjmjlbaa
open Go.RowKit
set_option linter.unusedSimpArgs false
set_option linter.unusedVariables false
set_option linter.constructorNameAsVariable false
set_option maxRecDepth 100000
set_option maxHeartbeats 40000000
theorem a3A (p:(List (List (Int×Int×Int×Int)))×(List (List Int))) (schedule:List Int) {r:(List (List (Int×Int×Int×Int)))×(List (List Int))×(List Int)×(El T80)×Int×Int×Int×(El T85)×(El T86)×Int×Bool} (h:C6 p schedule=some r):HC Try.prog 108 [] [.agg [.sl (.sl Y4) p.1,.sl (.sl .i) p.2],.sl .i schedule] [(2000,.arr 3 .i r.2.2.1)] (.tup [.agg (.sl (.sl Y4) r.1::(.sl (.sl .i) r.2.1::(.own 2000::(b3 T80 r.2.2.2.1++(.ii r.2.2.2.2.1::(.ii r.2.2.2.2.2.1::(.ii r.2.2.2.2.2.2.1::(b3 T85 r.2.2.2.2.2.2.2.1++(b3 T86 r.2.2.2.2.2.2.2.2.1++(.ii r.2.2.2.2.2.2.2.2.2.1::[])))))))))),.bool r.2.2.2.2.2.2.2.2.2.2]):=by
 unfold C6 at h
 refine zH Try.func108 [.cell 4 88,.tmp 5] 31 ?_
 refine zo ?_
 refine zB [(1,.sl .i schedule),(2,.bp 2 0),(4,.bp 4 0)] [(2,.box 77 [.sl (.sl Y4) p.1,.sl (.sl .i) p.2]),(4,.box 88 (.cv (.slice none 0 0)::(.cv (.slice none 0 0)::(.cv (.slice none 0 0)::(b3 T80 (Ty.dflt T80)++(.ii 0::(.ii 0::(.ii 0::(b3 T85 (Ty.dflt T85)++(b3 T86 (Ty.dflt T86)++(.ii 0::[])))))))))))] ?_
 refine AW.seq ?_
 refine zo ?_
 refine zB [(1,.sl .i schedule),(2,.bp 2 0),(4,.bp 4 0),(11,.bool (decide (12<(schedule.length:Int))))] [(2,.box 77 [.sl (.sl Y4) p.1,.sl (.sl .i) p.2]),(4,.box 88 (.cv (.slice none 0 0)::(.cv (.slice none 0 0)::(.cv (.slice none 0 0)::(b3 T80 (Ty.dflt T80)++(.ii 0::(.ii 0::(.ii 0::(b3 T85 (Ty.dflt T85)++(b3 T86 (Ty.dflt T86)++(.ii 0::[])))))))))))] ?_
 refine zQ h (fun hb1 h=>?_) (fun hb1 h=>?_)
 ·refine zo ?_
  refine zB [(4,.bp 4 0),(5,.bool false)] [(4,.box 88 (.cv (.slice none 0 0)::(.cv (.slice none 0 0)::(.cv (.slice none 0 0)::(b3 T80 (Ty.dflt T80)++(.ii 0::(.ii 0::(.ii 0::(b3 T85 (Ty.dflt T85)++(b3 T86 (Ty.dflt T86)++(.ii 0::[])))))))))))] ?_
  refine zr ?_
  obtain rfl:=zj h
  exact zR [] [2000] []
 refine zk ?_
 refine zo ?_
 refine zB [(1,.sl .i schedule),(4,.bp 4 0),(6,.bp 6 0)] [(4,.box 88 (.cv (.slice none 0 0)::(.cv (.slice none 0 0)::(.cv (.slice none 0 0)::(b3 T80 (Ty.dflt T80)++(.ii 0::(.ii 0::(.ii 0::(b3 T85 (Ty.dflt T85)++(b3 T86 (Ty.dflt T86)++(.ii 0::[]))))))))))),(6,.box 88 (.sl (.sl Y4) p.1::(.sl (.sl .i) p.2::(.cv (.slice none 0 0)::(b3 T80 (Ty.dflt T80)++(.ii 0::(.ii 0::(.ii 0::(b3 T85 (Ty.dflt T85)++(b3 T86 (Ty.dflt T86)++(.ii 0::[])))))))))))] ?_
 refine AW.have1 (fun b1:(List Int)×(El T80)×Int×Int×Int×(El T85)×(El T86)×Int=>T2 p b1=some r) (fun b1=>⟨fr [(4,.bp 4 0),(6,.bp 6 0)],b6 [(4,.box 88 (.cv (.slice none 0 0)::(.cv (.slice none 0 0)::(.cv (.slice none 0 0)::(b3 T80 (Ty.dflt T80)++(.ii 0::(.ii 0::(.ii 0::(b3 T85 (Ty.dflt T85)++(b3 T86 (Ty.dflt T86)++(.ii 0::[]))))))))))),(6,.box 88 (.sl (.sl Y4) p.1::(.sl (.sl .i) p.2::(.own 800::(b3 T80 b1.2.1++(.ii b1.2.2.1::(.ii b1.2.2.2.1::(.ii b1.2.2.2.2.1::(b3 T85 b1.2.2.2.2.2.1++(b3 T86 b1.2.2.2.2.2.2.1++(.ii b1.2.2.2.2.2.2.2::[]))))))))))),(800,.arr 3 .i b1.1)],gt⟩) (fun b1 h=>?_) (fun hk_code_program_play_k1=>?_)
 ·as_aux_lemma =>
   unfold T2 at h
   refine zo ?_
   refine zB [(4,.bp 4 0),(5,.bool true)] [(4,.box 88 (.sl (.sl Y4) p.1::(.sl (.sl .i) p.2::(.own 800::(b3 T80 b1.2.1++(.ii b1.2.2.1::(.ii b1.2.2.2.1::(.ii b1.2.2.2.2.1::(b3 T85 b1.2.2.2.2.2.1++(b3 T86 b1.2.2.2.2.2.2.1++(.ii b1.2.2.2.2.2.2.2::[]))))))))))),(800,.arr 3 .i b1.1)] ?_
   refine AW.ret ?_
   obtain rfl:=zj h
   exact zR [] [] [(2000,800)]
 refine AW.seq ?_
 refine zo ?_
 refine zB [(4,.bp 4 0),(6,.bp 6 0),(15,.sl .i schedule),(16,.ii (schedule.length:Int)),(17,.ii 0)] [(4,.box 88 (.cv (.slice none 0 0)::(.cv (.slice none 0 0)::(.cv (.slice none 0 0)::(b3 T80 (Ty.dflt T80)++(.ii 0::(.ii 0::(.ii 0::(b3 T85 (Ty.dflt T85)++(b3 T86 (Ty.dflt T86)++(.ii 0::[]))))))))))),(6,.box 88 (.sl (.sl Y4) p.1::(.sl (.sl .i) p.2::(.cv (.slice none 0 0)::(b3 T80 (Ty.dflt T80)++(.ii 0::(.ii 0::(.ii 0::(b3 T85 (Ty.dflt T85)++(b3 T86 (Ty.dflt T86)++(.ii 0::[])))))))))))] ?_
 refine AW.block ?_
 obtain ⟨rv6,hw2,ho3⟩:=zw h
 refine AW.loopO (l8 p schedule) (fun st1=>⟨fr [(4,.bp 4 0),(6,.bp 6 0),(15,.sl .i schedule),(16,.ii (schedule.length:Int)),(17,.ii st1.2.2.2.2.2.2.2.2)],b6 [(4,.box 88 (.cv (.slice none 0 0)::(.cv (.slice none 0 0)::(.cv (.slice none 0 0)::(b3 T80 (Ty.dflt T80)++(.ii 0::(.ii 0::(.ii 0::(b3 T85 (Ty.dflt T85)++(b3 T86 (Ty.dflt T86)++(.ii 0::[]))))))))))),(6,.box 88 (.sl (.sl Y4) p.1::(.sl (.sl .i) p.2::(.own 800::(b3 T80 st1.2.1++(.ii st1.2.2.1::(.ii st1.2.2.2.1::(.ii st1.2.2.2.2.1::(b3 T85 st1.2.2.2.2.2.1++(b3 T86 st1.2.2.2.2.2.2.1++(.ii st1.2.2.2.2.2.2.2.1::[]))))))))))),(800,.arr 3 .i st1.1)],gt⟩) ([],(Ty.dflt T80),0,0,0,(Ty.dflt T85),(Ty.dflt T86),0,0) hw2 (zL [] [800] []) ?_
 as_aux_lemma =>
  intro st1 x5 h hd4
  unfold l8 at h
  refine zo ?_
  refine zB [(4,.bp 4 0),(6,.bp 6 0),(15,.sl .i schedule),(16,.ii (schedule.length:Int)),(17,.ii st1.2.2.2.2.2.2.2.2),(18,.bool (decide (st1.2.2.2.2.2.2.2.2<(schedule.length:Int))))] [(4,.box 88 (.cv (.slice none 0 0)::(.cv (.slice none 0 0)::(.cv (.slice none 0 0)::(b3 T80 (Ty.dflt T80)++(.ii 0::(.ii 0::(.ii 0::(b3 T85 (Ty.dflt T85)++(b3 T86 (Ty.dflt T86)++(.ii 0::[]))))))))))),(6,.box 88 (.sl (.sl Y4) p.1::(.sl (.sl .i) p.2::(.own 800::(b3 T80 st1.2.1++(.ii st1.2.2.1::(.ii st1.2.2.2.1::(.ii st1.2.2.2.2.1::(b3 T85 st1.2.2.2.2.2.1++(b3 T86 st1.2.2.2.2.2.2.1++(.ii st1.2.2.2.2.2.2.2.1::[]))))))))))),(800,.arr 3 .i st1.1)] ?_
  refine AW.seq ?_
  refine zQ h (fun hb7 h=>?_) (fun hb7 h=>?_)
  ·refine zk ?_
   refine AW.seq ?_
   refine AW.block ?_
   refine zo ?_
   obtain ⟨c8,h⟩:=b5.1 h
   obtain ⟨c9,h⟩:=b5.1 h
   refine zB [(4,.bp 4 0),(6,.bp 6 0),(8,.ii (schedule.getD st1.2.2.2.2.2.2.2.2.toNat 0)),(15,.sl .i schedule),(16,.ii (schedule.length:Int)),(17,.ii st1.2.2.2.2.2.2.2.2)] [(4,.box 88 (.cv (.slice none 0 0)::(.cv (.slice none 0 0)::(.cv (.slice none 0 0)::(b3 T80 (Ty.dflt T80)++(.ii 0::(.ii 0::(.ii 0::(b3 T85 (Ty.dflt T85)++(b3 T86 (Ty.dflt T86)++(.ii 0::[]))))))))))),(6,.box 88 (.sl (.sl Y4) p.1::(.sl (.sl .i) p.2::(.own 800::(b3 T80 st1.2.1++(.ii st1.2.2.1::(.ii st1.2.2.2.1::(.ii st1.2.2.2.2.1::(b3 T85 st1.2.2.2.2.2.1++(b3 T86 st1.2.2.2.2.2.2.1++(.ii st1.2.2.2.2.2.2.2.1::[]))))))))))),(800,.arr 3 .i st1.1)] ?_
   refine AW.seq ?_
   refine zo ?_
   refine zS 2 [(4,.bp 4 0),(6,.bp 6 0),(8,.ii (schedule.getD st1.2.2.2.2.2.2.2.2.toNat 0)),(15,.sl .i schedule),(16,.ii (schedule.length:Int)),(17,.ii st1.2.2.2.2.2.2.2.2),(21,.agg (.sl (.sl Y4) p.1::(.sl (.sl .i) p.2::(.own 800::(b3 T80 st1.2.1++(.ii st1.2.2.1::(.ii st1.2.2.2.1::(.ii st1.2.2.2.2.1::(b3 T85 st1.2.2.2.2.2.1++(b3 T86 st1.2.2.2.2.2.2.1++(.ii st1.2.2.2.2.2.2.2.1::[]))))))))))),(22,.ii (schedule.getD st1.2.2.2.2.2.2.2.2.toNat 0))] [(4,.box 88 (.cv (.slice none 0 0)::(.cv (.slice none 0 0)::(.cv (.slice none 0 0)::(b3 T80 (Ty.dflt T80)++(.ii 0::(.ii 0::(.ii 0::(b3 T85 (Ty.dflt T85)++(b3 T86 (Ty.dflt T86)++(.ii 0::[]))))))))))),(6,.box 88 (.sl (.sl Y4) p.1::(.sl (.sl .i) p.2::(.own 800::(b3 T80 st1.2.1++(.ii st1.2.2.1::(.ii st1.2.2.2.1::(.ii st1.2.2.2.2.1::(b3 T85 st1.2.2.2.2.2.1++(b3 T86 st1.2.2.2.2.2.2.1++(.ii st1.2.2.2.2.2.2.2.1::[]))))))))))),(800,.arr 3 .i st1.1)] ?_
   obtain ⟨v0,hv10,h⟩:=zw h
   refine zC [800] [] (a0S (p,st1.1,st1.2.1,(st1.2.2.1,st1.2.2.2.1,st1.2.2.2.2.1),st1.2.2.2.2.2.1,st1.2.2.2.2.2.2.1,st1.2.2.2.2.2.2.2.1) (schedule.getD st1.2.2.2.2.2.2.2.2.toNat 0) hv10) [(4,.bp 4 0),(6,.bp 6 0),(8,.ii (schedule.getD st1.2.2.2.2.2.2.2.2.toNat 0)),(15,.sl .i schedule),(16,.ii (schedule.length:Int)),(17,.ii st1.2.2.2.2.2.2.2.2),(23,.bool v0)] [(4,.box 88 (.cv (.slice none 0 0)::(.cv (.slice none 0 0)::(.cv (.slice none 0 0)::(b3 T80 (Ty.dflt T80)++(.ii 0::(.ii 0::(.ii 0::(b3 T85 (Ty.dflt T85)++(b3 T86 (Ty.dflt T86)++(.ii 0::[]))))))))))),(6,.box 88 (.sl (.sl Y4) p.1::(.sl (.sl .i) p.2::(.own 800::(b3 T80 st1.2.1++(.ii st1.2.2.1::(.ii st1.2.2.2.1::(.ii st1.2.2.2.2.1::(b3 T85 st1.2.2.2.2.2.1++(b3 T86 st1.2.2.2.2.2.2.1++(.ii st1.2.2.2.2.2.2.2.1::[]))))))))))),(800,.arr 3 .i st1.1)] ?_
   refine zB [(4,.bp 4 0),(6,.bp 6 0),(8,.ii (schedule.getD st1.2.2.2.2.2.2.2.2.toNat 0)),(15,.sl .i schedule),(16,.ii (schedule.length:Int)),(17,.ii st1.2.2.2.2.2.2.2.2),(24,.bool (!v0))] [(4,.box 88 (.cv (.slice none 0 0)::(.cv (.slice none 0 0)::(.cv (.slice none 0 0)::(b3 T80 (Ty.dflt T80)++(.ii 0::(.ii 0::(.ii 0::(b3 T85 (Ty.dflt T85)++(b3 T86 (Ty.dflt T86)++(.ii 0::[]))))))))))),(6,.box 88 (.sl (.sl Y4) p.1::(.sl (.sl .i) p.2::(.own 800::(b3 T80 st1.2.1++(.ii st1.2.2.1::(.ii st1.2.2.2.1::(.ii st1.2.2.2.2.1::(b3 T85 st1.2.2.2.2.2.1++(b3 T86 st1.2.2.2.2.2.2.1++(.ii st1.2.2.2.2.2.2.2.1::[]))))))))))),(800,.arr 3 .i st1.1)] ?_
   refine zQ h (fun hb11 h=>?_) (fun hb11 h=>?_)
   ·refine zo ?_
    refine zB [(4,.bp 4 0),(5,.bool false)] [(4,.box 88 (.cv (.slice none 0 0)::(.cv (.slice none 0 0)::(.cv (.slice none 0 0)::(b3 T80 (Ty.dflt T80)++(.ii 0::(.ii 0::(.ii 0::(b3 T85 (Ty.dflt T85)++(b3 T86 (Ty.dflt T86)++(.ii 0::[])))))))))))] ?_
    refine zr ?_
    refine d7 ?_
    refine b9 ?_
    obtain rfl:=zj h
    try rw [← hd4 _ rfl] at ho3
    have h:=ho3
    try simp only at h
    refine b9 ?_
    refine d7 ?_
    refine b9 ?_
    obtain rfl:=zj h
    exact zR [] [2000] []
   refine zk ?_
   refine AW.ops ?_
   refine zS 2 [(4,.bp 4 0),(6,.bp 6 0),(15,.sl .i schedule),(16,.ii (schedule.length:Int)),(17,.ii st1.2.2.2.2.2.2.2.2),(26,.agg (.sl (.sl Y4) p.1::(.sl (.sl .i) p.2::(.own 800::(b3 T80 st1.2.1++(.ii st1.2.2.1::(.ii st1.2.2.2.1::(.ii st1.2.2.2.2.1::(b3 T85 st1.2.2.2.2.2.1++(b3 T86 st1.2.2.2.2.2.2.1++(.ii st1.2.2.2.2.2.2.2.1::[]))))))))))),(27,.ii (schedule.getD st1.2.2.2.2.2.2.2.2.toNat 0))] [(4,.box 88 (.cv (.slice none 0 0)::(.cv (.slice none 0 0)::(.cv (.slice none 0 0)::(b3 T80 (Ty.dflt T80)++(.ii 0::(.ii 0::(.ii 0::(b3 T85 (Ty.dflt T85)++(b3 T86 (Ty.dflt T86)++(.ii 0::[]))))))))))),(6,.box 88 (.sl (.sl Y4) p.1::(.sl (.sl .i) p.2::(.own 800::(b3 T80 st1.2.1++(.ii st1.2.2.1::(.ii st1.2.2.2.1::(.ii st1.2.2.2.2.1::(b3 T85 st1.2.2.2.2.2.1++(b3 T86 st1.2.2.2.2.2.2.1++(.ii st1.2.2.2.2.2.2.2.1::[]))))))))))),(800,.arr 3 .i st1.1)] ?_
   obtain ⟨v0_2,hv12,h⟩:=zw h
   refine zC [800] [] (a2m (p,st1.1,st1.2.1,(st1.2.2.1,st1.2.2.2.1,st1.2.2.2.2.1),st1.2.2.2.2.2.1,st1.2.2.2.2.2.2.1,st1.2.2.2.2.2.2.2.1) (schedule.getD st1.2.2.2.2.2.2.2.2.toNat 0) hv12) [(4,.bp 4 0),(6,.bp 6 0),(15,.sl .i schedule),(16,.ii (schedule.length:Int)),(17,.ii st1.2.2.2.2.2.2.2.2),(28,.agg (.sl (.sl Y4) p.1::(.sl (.sl .i) p.2::(.own 38000::(b3 T80 v0_2.1++(.ii v0_2.2.1::(.ii v0_2.2.2.1::(.ii v0_2.2.2.2.1::(b3 T85 v0_2.2.2.2.2.1++(b3 T86 v0_2.2.2.2.2.2.1++(.ii v0_2.2.2.2.2.2.2::[])))))))))))] [(4,.box 88 (.cv (.slice none 0 0)::(.cv (.slice none 0 0)::(.cv (.slice none 0 0)::(b3 T80 (Ty.dflt T80)++(.ii 0::(.ii 0::(.ii 0::(b3 T85 (Ty.dflt T85)++(b3 T86 (Ty.dflt T86)++(.ii 0::[]))))))))))),(6,.box 88 (.sl (.sl Y4) p.1::(.sl (.sl .i) p.2::(.own 800::(b3 T80 st1.2.1++(.ii st1.2.2.1::(.ii st1.2.2.2.1::(.ii st1.2.2.2.2.1::(b3 T85 st1.2.2.2.2.2.1++(b3 T86 st1.2.2.2.2.2.2.1++(.ii st1.2.2.2.2.2.2.2.1::[]))))))))))),(800,.imm .i st1.1),(38000,.arr 3 .i ((st1.1.take st1.1.length)++[(schedule.getD st1.2.2.2.2.2.2.2.2.toNat 0)]))] ?_
   refine zA [(4,.bp 4 0),(6,.bp 6 0),(15,.sl .i schedule),(16,.ii (schedule.length:Int)),(17,.ii st1.2.2.2.2.2.2.2.2)] [(4,.box 88 (.cv (.slice none 0 0)::(.cv (.slice none 0 0)::(.cv (.slice none 0 0)::(b3 T80 (Ty.dflt T80)++(.ii 0::(.ii 0::(.ii 0::(b3 T85 (Ty.dflt T85)++(b3 T86 (Ty.dflt T86)++(.ii 0::[]))))))))))),(6,.box 88 (.sl (.sl Y4) p.1::(.sl (.sl .i) p.2::(.own 38000::(b3 T80 v0_2.1++(.ii v0_2.2.1::(.ii v0_2.2.2.1::(.ii v0_2.2.2.2.1::(b3 T85 v0_2.2.2.2.2.1++(b3 T86 v0_2.2.2.2.2.2.1++(.ii v0_2.2.2.2.2.2.2::[]))))))))))),(38000,.arr 3 .i ((st1.1.take st1.1.length)++[(schedule.getD st1.2.2.2.2.2.2.2.2.toNat 0)]))] ?_
   refine p6 ?_
   refine g5 ?_
   refine AW.ops ?_
   obtain ⟨c13,h⟩:=b5.1 h
   refine zA [(4,.bp 4 0),(6,.bp 6 0),(15,.sl .i schedule),(16,.ii (schedule.length:Int)),(17,.ii (st1.2.2.2.2.2.2.2.2+1))] [(4,.box 88 (.cv (.slice none 0 0)::(.cv (.slice none 0 0)::(.cv (.slice none 0 0)::(b3 T80 (Ty.dflt T80)++(.ii 0::(.ii 0::(.ii 0::(b3 T85 (Ty.dflt T85)++(b3 T86 (Ty.dflt T86)++(.ii 0::[]))))))))))),(6,.box 88 (.sl (.sl Y4) p.1::(.sl (.sl .i) p.2::(.own 38000::(b3 T80 v0_2.1++(.ii v0_2.2.1::(.ii v0_2.2.2.1::(.ii v0_2.2.2.2.1::(b3 T85 v0_2.2.2.2.2.1++(b3 T86 v0_2.2.2.2.2.2.1++(.ii v0_2.2.2.2.2.2.2::[]))))))))))),(38000,.arr 3 .i ((st1.1.take st1.1.length)++[(schedule.getD st1.2.2.2.2.2.2.2.2.toNat 0)]))] ?_
   obtain rfl:=zj h
   exact ⟨_,rfl,zL [] [] [(800,38000)]⟩
  refine AW.exit ?_
  refine i6 ?_
  obtain rfl:=zj h
  rw [← hd4 _ rfl] at ho3
  have h:=ho3
  try simp only at h
  refine i6 ?_
  refine m7 ?_
  refine g5 ?_
  have hj:=hk_code_program_play_k1 _ h
  exact AW.weaken (zL [] [] []) hj
theorem a1e (c:List (List (Int×Int×Int×Int))) (use:List (List Int)) (schedule:List Int) {r:(List (List (Int×Int×Int×Int)))×(List (List Int))×(List Int)×(El T80)×Int×Int×Int×(El T85)×(El T86)×Int×Int} (h:Q2 c use schedule=some r):HC Try.prog 49 [] [.sl (.sl Y4) c,.sl (.sl .i) use,.sl .i schedule] [(2000,.arr 3 .i r.2.2.1)] (.tup [.agg (.sl (.sl Y4) r.1::(.sl (.sl .i) r.2.1::(.own 2000::(b3 T80 r.2.2.2.1++(.ii r.2.2.2.2.1::(.ii r.2.2.2.2.2.1::(.ii r.2.2.2.2.2.2.1::(b3 T85 r.2.2.2.2.2.2.2.1++(b3 T86 r.2.2.2.2.2.2.2.2.1++(.ii r.2.2.2.2.2.2.2.2.2.1::[])))))))))),.ii r.2.2.2.2.2.2.2.2.2.2]):=by
 unfold Q2 at h
 refine zH Try.func49 [.cell 6 88,.tmp 7] 30 ?_
 refine zo ?_
 refine zB [(0,.sl (.sl Y4) c),(1,.sl (.sl .i) use),(2,.sl .i schedule),(6,.bp 6 0)] [(6,.box 88 (.cv (.slice none 0 0)::(.cv (.slice none 0 0)::(.cv (.slice none 0 0)::(b3 T80 (Ty.dflt T80)++(.ii 0::(.ii 0::(.ii 0::(b3 T85 (Ty.dflt T85)++(b3 T86 (Ty.dflt T86)++(.ii 0::[])))))))))))] ?_
 refine AW.seq ?_
 refine zo ?_
 refine zS 2 [(0,.sl (.sl Y4) c),(1,.sl (.sl .i) use),(2,.sl .i schedule),(6,.bp 6 0),(11,.sl (.sl Y4) c),(12,.sl (.sl .i) use)] [(6,.box 88 (.cv (.slice none 0 0)::(.cv (.slice none 0 0)::(.cv (.slice none 0 0)::(b3 T80 (Ty.dflt T80)++(.ii 0::(.ii 0::(.ii 0::(b3 T85 (Ty.dflt T85)++(b3 T86 (Ty.dflt T86)++(.ii 0::[])))))))))))] ?_
 obtain ⟨v0,hv1,h⟩:=zw h
 refine zC [] [] (a2o c use hv1) [(0,.sl (.sl Y4) c),(1,.sl (.sl .i) use),(2,.sl .i schedule),(6,.bp 6 0),(13,.ii v0)] [(6,.box 88 (.cv (.slice none 0 0)::(.cv (.slice none 0 0)::(.cv (.slice none 0 0)::(b3 T80 (Ty.dflt T80)++(.ii 0::(.ii 0::(.ii 0::(b3 T85 (Ty.dflt T85)++(b3 T86 (Ty.dflt T86)++(.ii 0::[])))))))))))] ?_
 refine zB [(0,.sl (.sl Y4) c),(1,.sl (.sl .i) use),(2,.sl .i schedule),(6,.bp 6 0),(8,.ii v0)] [(6,.box 88 (.cv (.slice none 0 0)::(.cv (.slice none 0 0)::(.cv (.slice none 0 0)::(b3 T80 (Ty.dflt T80)++(.ii 0::(.ii 0::(.ii 0::(b3 T85 (Ty.dflt T85)++(b3 T86 (Ty.dflt T86)++(.ii 0::[])))))))))))] ?_
 refine zo ?_
 refine zB [(0,.sl (.sl Y4) c),(1,.sl (.sl .i) use),(2,.sl .i schedule),(6,.bp 6 0),(8,.ii v0),(15,.bool (!(decide (v0=0))))] [(6,.box 88 (.cv (.slice none 0 0)::(.cv (.slice none 0 0)::(.cv (.slice none 0 0)::(b3 T80 (Ty.dflt T80)++(.ii 0::(.ii 0::(.ii 0::(b3 T85 (Ty.dflt T85)++(b3 T86 (Ty.dflt T86)++(.ii 0::[])))))))))))] ?_
 refine zQ h (fun hb2 h=>?_) (fun hb2 h=>?_)
 ·refine zo ?_
  refine zB [(6,.bp 6 0),(7,.ii v0)] [(6,.box 88 (.cv (.slice none 0 0)::(.cv (.slice none 0 0)::(.cv (.slice none 0 0)::(b3 T80 (Ty.dflt T80)++(.ii 0::(.ii 0::(.ii 0::(b3 T85 (Ty.dflt T85)++(b3 T86 (Ty.dflt T86)++(.ii 0::[])))))))))))] ?_
  refine zr ?_
  obtain rfl:=zj h
  exact zR [] [2000] []
 refine zk ?_
 refine zo ?_
 refine zS 4 [(6,.bp 6 0),(21,.agg [.sl (.sl Y4) c,.sl (.sl .i) use]),(22,.sl .i schedule)] [(6,.box 88 (.cv (.slice none 0 0)::(.cv (.slice none 0 0)::(.cv (.slice none 0 0)::(b3 T80 (Ty.dflt T80)++(.ii 0::(.ii 0::(.ii 0::(b3 T85 (Ty.dflt T85)++(b3 T86 (Ty.dflt T86)++(.ii 0::[])))))))))))] ?_
 obtain ⟨v0_2,hv3,h⟩:=zw h
 refine zC [] [] (a3A (c,use) schedule hv3) [(6,.bp 6 0),(23,.tup [.agg (.sl (.sl Y4) v0_2.1::(.sl (.sl .i) v0_2.2.1::(.own 33000::(b3 T80 v0_2.2.2.2.1++(.ii v0_2.2.2.2.2.1::(.ii v0_2.2.2.2.2.2.1::(.ii v0_2.2.2.2.2.2.2.1::(b3 T85 v0_2.2.2.2.2.2.2.2.1++(b3 T86 v0_2.2.2.2.2.2.2.2.2.1++(.ii v0_2.2.2.2.2.2.2.2.2.2.1::[])))))))))),.bool v0_2.2.2.2.2.2.2.2.2.2.2])] [(6,.box 88 (.cv (.slice none 0 0)::(.cv (.slice none 0 0)::(.cv (.slice none 0 0)::(b3 T80 (Ty.dflt T80)++(.ii 0::(.ii 0::(.ii 0::(b3 T85 (Ty.dflt T85)++(b3 T86 (Ty.dflt T86)++(.ii 0::[]))))))))))),(33000,.arr 3 .i v0_2.2.2.1)] ?_
 refine zS 5 [(6,.bp 6 0),(9,.bp 9 0),(25,.bool v0_2.2.2.2.2.2.2.2.2.2.2)] [(6,.box 88 (.cv (.slice none 0 0)::(.cv (.slice none 0 0)::(.cv (.slice none 0 0)::(b3 T80 (Ty.dflt T80)++(.ii 0::(.ii 0::(.ii 0::(b3 T85 (Ty.dflt T85)++(b3 T86 (Ty.dflt T86)++(.ii 0::[]))))))))))),(9,.box 88 (.sl (.sl Y4) v0_2.1::(.sl (.sl .i) v0_2.2.1::(.own 33000::(b3 T80 v0_2.2.2.2.1++(.ii v0_2.2.2.2.2.1::(.ii v0_2.2.2.2.2.2.1::(.ii v0_2.2.2.2.2.2.2.1::(b3 T85 v0_2.2.2.2.2.2.2.2.1++(b3 T86 v0_2.2.2.2.2.2.2.2.2.1++(.ii v0_2.2.2.2.2.2.2.2.2.2.1::[]))))))))))),(33000,.arr 3 .i v0_2.2.2.1)] ?_
 refine zB [(6,.bp 6 0),(9,.bp 9 0),(10,.bool v0_2.2.2.2.2.2.2.2.2.2.2)] [(6,.box 88 (.cv (.slice none 0 0)::(.cv (.slice none 0 0)::(.cv (.slice none 0 0)::(b3 T80 (Ty.dflt T80)++(.ii 0::(.ii 0::(.ii 0::(b3 T85 (Ty.dflt T85)++(b3 T86 (Ty.dflt T86)++(.ii 0::[]))))))))))),(9,.box 88 (.sl (.sl Y4) v0_2.1::(.sl (.sl .i) v0_2.2.1::(.own 33000::(b3 T80 v0_2.2.2.2.1++(.ii v0_2.2.2.2.2.1::(.ii v0_2.2.2.2.2.2.1::(.ii v0_2.2.2.2.2.2.2.1::(b3 T85 v0_2.2.2.2.2.2.2.2.1++(b3 T86 v0_2.2.2.2.2.2.2.2.2.1++(.ii v0_2.2.2.2.2.2.2.2.2.2.1::[]))))))))))),(33000,.arr 3 .i v0_2.2.2.1)] ?_
 refine AW.seq ?_
 refine zo ?_
 refine zB [(6,.bp 6 0),(9,.bp 9 0),(27,.bool (!v0_2.2.2.2.2.2.2.2.2.2.2))] [(6,.box 88 (.cv (.slice none 0 0)::(.cv (.slice none 0 0)::(.cv (.slice none 0 0)::(b3 T80 (Ty.dflt T80)++(.ii 0::(.ii 0::(.ii 0::(b3 T85 (Ty.dflt T85)++(b3 T86 (Ty.dflt T86)++(.ii 0::[]))))))))))),(9,.box 88 (.sl (.sl Y4) v0_2.1::(.sl (.sl .i) v0_2.2.1::(.own 33000::(b3 T80 v0_2.2.2.2.1++(.ii v0_2.2.2.2.2.1::(.ii v0_2.2.2.2.2.2.1::(.ii v0_2.2.2.2.2.2.2.1::(b3 T85 v0_2.2.2.2.2.2.2.2.1++(b3 T86 v0_2.2.2.2.2.2.2.2.2.1++(.ii v0_2.2.2.2.2.2.2.2.2.2.1::[]))))))))))),(33000,.arr 3 .i v0_2.2.2.1)] ?_
 refine zQ h (fun hb4 h=>?_) (fun hb4 h=>?_)
 ·refine zo ?_
  refine zB [(6,.bp 6 0),(7,.ii 2)] [(6,.box 88 (.cv (.slice none 0 0)::(.cv (.slice none 0 0)::(.cv (.slice none 0 0)::(b3 T80 (Ty.dflt T80)++(.ii 0::(.ii 0::(.ii 0::(b3 T85 (Ty.dflt T85)++(b3 T86 (Ty.dflt T86)++(.ii 0::[])))))))))))] ?_
  refine zr ?_
  obtain rfl:=zj h
  exact zR [] [2000] []
 refine zk ?_
 refine zo ?_
 refine zB [(6,.bp 6 0),(7,.ii 0)] [(6,.box 88 (.sl (.sl Y4) v0_2.1::(.sl (.sl .i) v0_2.2.1::(.own 33000::(b3 T80 v0_2.2.2.2.1++(.ii v0_2.2.2.2.2.1::(.ii v0_2.2.2.2.2.2.1::(.ii v0_2.2.2.2.2.2.2.1::(b3 T85 v0_2.2.2.2.2.2.2.2.1++(b3 T86 v0_2.2.2.2.2.2.2.2.2.1++(.ii v0_2.2.2.2.2.2.2.2.2.2.1::[]))))))))))),(33000,.arr 3 .i v0_2.2.2.1)] ?_
 refine AW.ret ?_
 obtain rfl:=zj h
 exact zR [] [] [(2000,33000)]
theorem a6z (s:ZH) {r:ZH} (h:a0W s=some r):HC Try.prog 109 [] [.sl Y0 s] [(2000,.arr 68 Y0 r)] (.own 2000):=by
 unfold a0W at h
 refine zH Try.func109 [.tmp 2] 8 ?_
 refine zo ?_
 refine zB [(0,.sl Y0 s)] [] ?_
 refine AW.seq ?_
 refine zo ?_
 refine zS 1 [(0,.sl Y0 s),(3,.sl Y0 s)] [] ?_
 refine AO.nilEq (neg:=false) r4 (by decide) rfl rfl b3Z rfl rfl rfl (fun hnil1=>?_) ?_
 ·have h:(some [])=some r:=by
   first|(simp only [hnil1] at h ⊢; simpa [ck] using h)|(simp [hnil1,ck] at h ⊢; first|done|exact h)
  refine zT [(0,.sl Y0 s),(4,.bool true)] [] gt ?_
  refine zB [(0,.sl Y0 s),(4,.bool true)] [] ?_
  refine AW.cond (b:=true) rfl (fun _=>?_) (fun hb2=>by cases hb2)
  refine zo ?_
  refine zB [(2,.cv (.slice none 0 0))] [] ?_
  refine zr ?_
  obtain rfl:=zj h
  exact zR [] [2000] []
 refine zT [(0,.sl Y0 s),(4,.bool false)] [] gt ?_
 refine zB [(0,.sl Y0 s),(4,.bool false)] [] ?_
 refine AW.cond (b:=false) rfl (fun hb3=>by cases hb3) (fun _=>?_)
 refine zk ?_
 refine zo ?_
 obtain ⟨c4,h⟩:=b5.1 h
 refine zB [(2,.own 7)] [(7,.arr 68 Y0 s)] ?_
 refine AW.ret ?_
 obtain rfl:=zj h
 exact zR [] [] [(2000,7)]
theorem a0R (r0:((List (List (Int×Int×Int×Int)))×(List (List Int)))×(List Int)×(El T80)×(Int×Int×Int)×(El T85)×(El T86)×Int) {r:ZH} (h:J3 r0=some r):HC Try.prog 50 [] [.agg (.sl (.sl Y4) r0.1.1::(.sl (.sl .i) r0.1.2::(.sl .i r0.2.1::(b3 T80 r0.2.2.1++(.ii r0.2.2.2.1.1::(.ii r0.2.2.2.1.2.1::(.ii r0.2.2.2.1.2.2::(b3 T85 r0.2.2.2.2.1++(b3 T86 r0.2.2.2.2.2.1++(.ii r0.2.2.2.2.2.2::[]))))))))))] [(2000,.arr 68 Y0 r)] (.own 2000):=by
 unfold J3 at h
 refine zH Try.func50 [.tmp 2] 8 ?_
 refine zo ?_
 refine zS 1 [(1,.bp 1 0)] [(1,.box 88 (.sl (.sl Y4) r0.1.1::(.sl (.sl .i) r0.1.2::(.sl .i r0.2.1::(b3 T80 r0.2.2.1++(.ii r0.2.2.2.1.1::(.ii r0.2.2.2.1.2.1::(.ii r0.2.2.2.1.2.2::(b3 T85 r0.2.2.2.2.1++(b3 T86 r0.2.2.2.2.2.1++(.ii r0.2.2.2.2.2.2::[])))))))))))] ?_
 refine AO.weaken (s':=⟨fr [(1,.dp Y5 r0 0)],b6 [],gt⟩) (Wk.boxes [1] rfl rfl (by (simp only [go_sem])<;>(with_reducible and_intros)<;>first|assumption|rfl|omega|(unfold maxLen; omega)) (by (simp only [go_sem])<;>(with_reducible and_intros)<;>first|assumption|rfl|omega|(unfold maxLen; omega))) ?_
 refine zB [(1,.dp Y5 r0 0)] [] ?_
 refine zo ?_
 obtain ⟨c1,h⟩:=b5.1 h
 obtain ⟨c2,h⟩:=b5.1 h
 refine zS 4 [(6,.sl Y0 ((a2Y Y0 6 r0.2.2.2.2.2.1).take r0.2.2.2.2.2.2.toNat))] [] ?_
 obtain ⟨v0,hv3,h⟩:=zw h
 refine zC [] [] (a6z ((a2Y Y0 6 r0.2.2.2.2.2.1).take r0.2.2.2.2.2.2.toNat) hv3) [(7,.own 17000)] [(17000,.arr 68 Y0 v0)] ?_
 refine zB [(2,.own 17000)] [(17000,.arr 68 Y0 v0)] ?_
 refine AW.ret ?_
 obtain rfl:=zj h
 exact zR [] [] [(2000,17000)]
theorem a6m (c:List (List (Int×Int×Int×Int))) (use:List (List Int)) (schedule:List Int) {r:ZH×Int} (h:a1k c use schedule=some r):HC Try.prog 14 [] [.sl (.sl Y4) c,.sl (.sl .i) use,.sl .i schedule] [(2000,.arr 68 Y0 r.1)] (.tup [.own 2000,.ii r.2]):=by
 unfold a1k at h
 refine zH Try.func14 [.tmp 6,.tmp 7] 22 ?_
 refine zo ?_
 refine zB [(0,.sl (.sl Y4) c),(1,.sl (.sl .i) use),(2,.sl .i schedule)] [] ?_
 refine zo ?_
 refine zS 3 [(11,.sl (.sl Y4) c),(12,.sl (.sl .i) use),(13,.sl .i schedule)] [] ?_
 obtain ⟨v0,hv1,h⟩:=zw h
 refine zC [] [] (a1e c use schedule hv1) [(14,.tup [.agg (.sl (.sl Y4) v0.1::(.sl (.sl .i) v0.2.1::(.own 24000::(b3 T80 v0.2.2.2.1++(.ii v0.2.2.2.2.1::(.ii v0.2.2.2.2.2.1::(.ii v0.2.2.2.2.2.2.1::(b3 T85 v0.2.2.2.2.2.2.2.1++(b3 T86 v0.2.2.2.2.2.2.2.2.1++(.ii v0.2.2.2.2.2.2.2.2.2.1::[])))))))))),.ii v0.2.2.2.2.2.2.2.2.2.2])] [(24000,.arr 3 .i v0.2.2.1)] ?_
 refine AO.weaken (s':=⟨fr [(14,.tup [.agg (.sl (.sl Y4) v0.1::(.sl (.sl .i) v0.2.1::(.sl .i v0.2.2.1::(b3 T80 v0.2.2.2.1++(.ii v0.2.2.2.2.1::(.ii v0.2.2.2.2.2.1::(.ii v0.2.2.2.2.2.2.1::(b3 T85 v0.2.2.2.2.2.2.2.1++(b3 T86 v0.2.2.2.2.2.2.2.2.1++(.ii v0.2.2.2.2.2.2.2.2.2.1::[])))))))))),.ii v0.2.2.2.2.2.2.2.2.2.2])],b6 [],gt⟩) (zL [24000] [] []) ?_
 refine zS 5 [(8,.bp 8 0),(16,.ii v0.2.2.2.2.2.2.2.2.2.2)] [(8,.box 88 (.sl (.sl Y4) v0.1::(.sl (.sl .i) v0.2.1::(.sl .i v0.2.2.1::(b3 T80 v0.2.2.2.1++(.ii v0.2.2.2.2.1::(.ii v0.2.2.2.2.2.1::(.ii v0.2.2.2.2.2.2.1::(b3 T85 v0.2.2.2.2.2.2.2.1++(b3 T86 v0.2.2.2.2.2.2.2.2.1++(.ii v0.2.2.2.2.2.2.2.2.2.1::[])))))))))))] ?_
 refine zB [(8,.bp 8 0),(9,.ii v0.2.2.2.2.2.2.2.2.2.2)] [(8,.box 88 (.sl (.sl Y4) v0.1::(.sl (.sl .i) v0.2.1::(.sl .i v0.2.2.1::(b3 T80 v0.2.2.2.1++(.ii v0.2.2.2.2.1::(.ii v0.2.2.2.2.2.1::(.ii v0.2.2.2.2.2.2.1::(b3 T85 v0.2.2.2.2.2.2.2.1++(b3 T86 v0.2.2.2.2.2.2.2.2.1++(.ii v0.2.2.2.2.2.2.2.2.2.1::[])))))))))))] ?_
 refine AW.seq ?_
 refine zo ?_
 refine zB [(8,.bp 8 0),(9,.ii v0.2.2.2.2.2.2.2.2.2.2),(18,.bool (!(decide (v0.2.2.2.2.2.2.2.2.2.2=0))))] [(8,.box 88 (.sl (.sl Y4) v0.1::(.sl (.sl .i) v0.2.1::(.sl .i v0.2.2.1::(b3 T80 v0.2.2.2.1++(.ii v0.2.2.2.2.1::(.ii v0.2.2.2.2.2.1::(.ii v0.2.2.2.2.2.2.1::(b3 T85 v0.2.2.2.2.2.2.2.1++(b3 T86 v0.2.2.2.2.2.2.2.2.1++(.ii v0.2.2.2.2.2.2.2.2.2.1::[])))))))))))] ?_
 refine zQ h (fun hb2 h=>?_) (fun hb2 h=>?_)
 ·refine zo ?_
  refine zB [(6,.cv (.slice none 0 0)),(7,.ii v0.2.2.2.2.2.2.2.2.2.2)] [] ?_
  refine zr ?_
  obtain rfl:=zj h
  exact zR [] [2000] []
 refine zk ?_
 refine zo ?_
 refine zS 1 [(20,.agg (.sl (.sl Y4) v0.1::(.sl (.sl .i) v0.2.1::(.sl .i v0.2.2.1::(b3 T80 v0.2.2.2.1++(.ii v0.2.2.2.2.1::(.ii v0.2.2.2.2.2.1::(.ii v0.2.2.2.2.2.2.1::(b3 T85 v0.2.2.2.2.2.2.2.1++(b3 T86 v0.2.2.2.2.2.2.2.2.1++(.ii v0.2.2.2.2.2.2.2.2.2.1::[])))))))))))] [] ?_
 obtain ⟨v0_2,hv3,h⟩:=zw h
 refine zC [] [] (a0R ((v0.1,v0.2.1),v0.2.2.1,v0.2.2.2.1,(v0.2.2.2.2.1,v0.2.2.2.2.2.1,v0.2.2.2.2.2.2.1),v0.2.2.2.2.2.2.2.1,v0.2.2.2.2.2.2.2.2.1,v0.2.2.2.2.2.2.2.2.2.1) hv3) [(21,.own 31000)] [(31000,.arr 68 Y0 v0_2)] ?_
 refine zB [(6,.own 31000),(7,.ii 0)] [(31000,.arr 68 Y0 v0_2)] ?_
 refine AW.ret ?_
 obtain rfl:=zj h
 exact zR [] [] [(2000,31000)]
theorem O3 {r:Bool} (h:A5=some r):HC Try.prog 11 [] [] [] (.bool r):=by
 unfold A5 at h
 refine zH Try.func11 [.tmp 0] 40 ?_
 refine zo ?_
 refine zB [] [] ?_
 refine zo ?_
 refine zS 5 [(8,.own 8)] [(8,.arr 74 Y4 [(1,0,0,0),(5,2,0,1),(2,0,2,0),(7,0,0,0)])] ?_
 refine zB [(1,.own 9)] [(9,.arr 71 (.sl Y4) [[(1,0,0,0),(5,2,0,1),(2,0,2,0),(7,0,0,0)]])] ?_
 refine zo ?_
 refine zS 5 [(11,.own 9),(14,.own 14),(15,.own 15)] [(9,.arr 71 (.sl Y4) [[(1,0,0,0),(5,2,0,1),(2,0,2,0),(7,0,0,0)]]),(14,.arr 28 (.sl .i) [[0],[0]]),(15,.arr 3 .i [0,0,1,1,0,0,1,1])] ?_
 obtain ⟨v0,hv1,h⟩:=zw h
 refine zC [9,14,15] [] (a6m [[(1,0,0,0),(5,2,0,1),(2,0,2,0),(7,0,0,0)]] [[0],[0]] [0,0,1,1,0,0,1,1] hv1) [(16,.tup [.own 26000,.ii v0.2])] [(26000,.arr 68 Y0 v0.1)] ?_
 refine zB [(2,.own 26000),(3,.ii v0.2)] [(26000,.arr 68 Y0 v0.1)] ?_
 refine zo ?_
 refine zS 3 [(2,.own 26000),(21,.bool (decide (v0.2=0)))] [(26000,.arr 68 Y0 v0.1)] ?_
 rcases zI h with ⟨hb2,h⟩|⟨hb2,h⟩
 ·refine zS 5 [(2,.own 26000),(26,.bool (decide ((v0.1.length:Int)=2)))] [(26000,.arr 68 Y0 v0.1)] ?_
  rcases zI h with ⟨hb3,h⟩|⟨hb3,h⟩
  ·obtain ⟨c4,h⟩:=b5.1 h
   refine zS 4 [(2,.own 26000),(26,.bool true),(29,.agg [.ii (v0.1.getD 0 (0,0,0,0,0,0)).1,.ii (v0.1.getD 0 (0,0,0,0,0,0)).2.1,.ii (v0.1.getD 0 (0,0,0,0,0,0)).2.2.1,.ii (v0.1.getD 0 (0,0,0,0,0,0)).2.2.2.1,.ii (v0.1.getD 0 (0,0,0,0,0,0)).2.2.2.2.1,.ii (v0.1.getD 0 (0,0,0,0,0,0)).2.2.2.2.2]),(30,.agg [.ii 0,.ii 0,.ii 0,.ii 0,.ii 1,.ii 12])] [(26000,.arr 68 Y0 v0.1)] ?_
   obtain ⟨c5,h⟩:=b5.1 h
   obtain ⟨c6,h⟩:=b5.1 h
   obtain ⟨c7,h⟩:=b5.1 h
   obtain ⟨c8,h⟩:=b5.1 h
   obtain ⟨c9,h⟩:=b5.1 h
   obtain ⟨c10,h⟩:=b5.1 h
   obtain ⟨c11,h⟩:=b5.1 h
   obtain ⟨c12,h⟩:=b5.1 h
   obtain ⟨c13,h⟩:=b5.1 h
   obtain ⟨c14,h⟩:=b5.1 h
   obtain ⟨c15,h⟩:=b5.1 h
   obtain ⟨c16,h⟩:=b5.1 h
   refine AO.aggEqG (neg:=false) b14 (by decide) (.inr ⟨_,_,_,rfl,rfl,rfl⟩) rfl (lx:=[.ii (v0.1.getD 0 (0,0,0,0,0,0)).1,.ii (v0.1.getD 0 (0,0,0,0,0,0)).2.1,.ii (v0.1.getD 0 (0,0,0,0,0,0)).2.2.1,.ii (v0.1.getD 0 (0,0,0,0,0,0)).2.2.2.1,.ii (v0.1.getD 0 (0,0,0,0,0,0)).2.2.2.2.1,.ii (v0.1.getD 0 (0,0,0,0,0,0)).2.2.2.2.2]) (ly:=[.ii 0,.ii 0,.ii 0,.ii 0,.ii 1,.ii 12]) (by first|rfl|(simp only [go_sem,hb2,hb3])<;>(with_reducible and_intros)<;>first|assumption|rfl|omega|(unfold maxLen; omega)) (by first|rfl|(simp only [go_sem,hb2,hb3])<;>(with_reducible and_intros)<;>first|assumption|rfl|omega|(unfold maxLen; omega)) (by first|rfl|(simp only [go_sem,hb2,hb3])<;>(with_reducible and_intros)<;>first|assumption|rfl|omega|(unfold maxLen; omega)) (by first|rfl|(simp only [go_sem,hb2,hb3])<;>(with_reducible and_intros)<;>first|assumption|rfl|omega|(unfold maxLen; omega)) (by first|assumption|omega|(simp only [go_sem,hb2,hb3])<;>(with_reducible and_intros)<;>first|assumption|rfl|omega|(unfold maxLen; omega)) (by first|assumption|omega|(simp only [go_sem,hb2,hb3])<;>(with_reducible and_intros)<;>first|assumption|rfl|omega|(unfold maxLen; omega)) ?_
   refine zT [(2,.own 26000),(26,.bool true),(31,.bool (decide ((v0.1.getD 0 (0,0,0,0,0,0))=(0,0,0,0,1,12))))] [(26000,.arr 68 Y0 v0.1)] gt ?_
   refine zS 2 [(2,.own 26000),(33,.bool (decide ((v0.1.getD 0 (0,0,0,0,0,0))=(0,0,0,0,1,12))))] [(26000,.arr 68 Y0 v0.1)] ?_
   rcases zI h with ⟨hb17,h⟩|⟨hb17,h⟩
   ·obtain ⟨c18,h⟩:=b5.1 h
    refine zS 4 [(33,.bool true),(36,.agg [.ii (v0.1.getD 1 (0,0,0,0,0,0)).1,.ii (v0.1.getD 1 (0,0,0,0,0,0)).2.1,.ii (v0.1.getD 1 (0,0,0,0,0,0)).2.2.1,.ii (v0.1.getD 1 (0,0,0,0,0,0)).2.2.2.1,.ii (v0.1.getD 1 (0,0,0,0,0,0)).2.2.2.2.1,.ii (v0.1.getD 1 (0,0,0,0,0,0)).2.2.2.2.2]),(37,.agg [.ii 1,.ii 0,.ii 0,.ii 0,.ii 5,.ii 16])] [] ?_
    obtain ⟨c19,h⟩:=b5.1 h
    obtain ⟨c20,h⟩:=b5.1 h
    obtain ⟨c21,h⟩:=b5.1 h
    obtain ⟨c22,h⟩:=b5.1 h
    obtain ⟨c23,h⟩:=b5.1 h
    obtain ⟨c24,h⟩:=b5.1 h
    obtain ⟨c25,h⟩:=b5.1 h
    obtain ⟨c26,h⟩:=b5.1 h
    obtain ⟨c27,h⟩:=b5.1 h
    obtain ⟨c28,h⟩:=b5.1 h
    obtain ⟨c29,h⟩:=b5.1 h
    obtain ⟨c30,h⟩:=b5.1 h
    refine AO.aggEqG (neg:=false) b14 (by decide) (.inr ⟨_,_,_,rfl,rfl,rfl⟩) rfl (lx:=[.ii (v0.1.getD 1 (0,0,0,0,0,0)).1,.ii (v0.1.getD 1 (0,0,0,0,0,0)).2.1,.ii (v0.1.getD 1 (0,0,0,0,0,0)).2.2.1,.ii (v0.1.getD 1 (0,0,0,0,0,0)).2.2.2.1,.ii (v0.1.getD 1 (0,0,0,0,0,0)).2.2.2.2.1,.ii (v0.1.getD 1 (0,0,0,0,0,0)).2.2.2.2.2]) (ly:=[.ii 1,.ii 0,.ii 0,.ii 0,.ii 5,.ii 16]) (by first|rfl|(simp only [go_sem,hb2,hb3,hb17])<;>(with_reducible and_intros)<;>first|assumption|rfl|omega|(unfold maxLen; omega)) (by first|rfl|(simp only [go_sem,hb2,hb3,hb17])<;>(with_reducible and_intros)<;>first|assumption|rfl|omega|(unfold maxLen; omega)) (by first|rfl|(simp only [go_sem,hb2,hb3,hb17])<;>(with_reducible and_intros)<;>first|assumption|rfl|omega|(unfold maxLen; omega)) (by first|rfl|(simp only [go_sem,hb2,hb3,hb17])<;>(with_reducible and_intros)<;>first|assumption|rfl|omega|(unfold maxLen; omega)) (by first|assumption|omega|(simp only [go_sem,hb2,hb3,hb17])<;>(with_reducible and_intros)<;>first|assumption|rfl|omega|(unfold maxLen; omega)) (by first|assumption|omega|(simp only [go_sem,hb2,hb3,hb17])<;>(with_reducible and_intros)<;>first|assumption|rfl|omega|(unfold maxLen; omega)) ?_
    refine zT [(33,.bool true),(38,.bool (decide ((v0.1.getD 1 (0,0,0,0,0,0))=(1,0,0,0,5,16))))] [] gt ?_
    refine zB [(0,.bool (decide ((v0.1.getD 1 (0,0,0,0,0,0))=(1,0,0,0,5,16))))] [] ?_
    refine AW.ret ?_
    obtain rfl:=zj h
    exact zR [] [] []
   refine zS 4 [(33,.bool false),(36,.cv (undef)),(37,.cv (undef))] [] ?_
   refine zB [(0,.bool false)] [] ?_
   refine AW.ret ?_
   obtain rfl:=zj h
   exact zR [] [] []
  refine zS 4 [(2,.own 26000),(26,.bool false),(29,.cv (undef)),(30,.cv (undef))] [(26000,.arr 68 Y0 v0.1)] ?_
  refine zS 5 [(33,.bool false),(35,.cv (undef))] [] ?_
  refine zB [(0,.bool false)] [] ?_
  refine AW.ret ?_
  obtain rfl:=zj h
  exact zR [] [] []
 refine zS 5 [(2,.own 26000),(26,.bool false)] [(26000,.arr 68 Y0 v0.1)] ?_
 refine zS 4 [(2,.own 26000),(26,.bool false),(29,.cv (undef)),(30,.cv (undef))] [(26000,.arr 68 Y0 v0.1)] ?_
 refine zS 5 [(33,.bool false),(35,.cv (undef))] [] ?_
 refine zB [(0,.bool false)] [] ?_
 refine AW.ret ?_
 obtain rfl:=zj h
 exact zR [] [] []
theorem q9 (lo:Int) (n:Int) (hi:Int) {r:Bool} (h:l7 lo n hi=some r):HC Try.prog 55 [] [.ii lo,.ii n,.ii hi] [] (.bool r):=by
 unfold l7 at h
 refine zH Try.func55 [.tmp 6] 15 ?_
 refine zo ?_
 refine zB [(0,.ii lo),(1,.ii n),(2,.ii hi)] [] ?_
 refine zo ?_
 refine zS 4 [(1,.ii n),(2,.ii hi),(10,.bool (decide (lo≤n)))] [] ?_
 rcases zI h with ⟨hb1,h⟩|⟨hb1,h⟩
 ·refine zB [(6,.bool (decide (n≤hi)))] [] ?_
  refine AW.ret ?_
  obtain rfl:=zj h
  exact zR [] [] []
 refine zB [(6,.bool false)] [] ?_
 refine AW.ret ?_
 obtain rfl:=zj h
 exact zR [] [] []
theorem l3 (n:Int) {r:Bool} (h:j5 n=some r):HC Try.prog 115 [] [.ii n] [] (.bool r):=by
 unfold j5 at h
 refine zH Try.func115 [.tmp 2] 5 ?_
 refine zo ?_
 refine zB [(0,.ii n)] [] ?_
 refine zo ?_
 refine zS 1 [(3,.ii n)] [] ?_
 obtain ⟨v0,hv1,h⟩:=zw h
 refine zC [] [] (q9 0 n 3 hv1) [(4,.bool v0)] [] ?_
 refine zB [(2,.bool v0)] [] ?_
 refine AW.ret ?_
 obtain rfl:=zj h
 exact zR [] [] []
theorem R6 (n:Int) {r:Bool} (h:y9 n=some r):HC Try.prog 87 [] [.ii n] [] (.bool r):=by
 unfold y9 at h
 refine zH Try.func87 [.tmp 2] 5 ?_
 refine zo ?_
 refine zB [(0,.ii n)] [] ?_
 refine zo ?_
 refine zS 1 [(3,.ii n)] [] ?_
 obtain ⟨v0,hv1,h⟩:=zw h
 refine zC [] [] (q9 0 n 2 hv1) [(4,.bool v0)] [] ?_
 refine zB [(2,.bool v0)] [] ?_
 refine AW.ret ?_
 obtain rfl:=zj h
 exact zR [] [] []
theorem a2g (n:Int) {r:Bool} (h:F1 n=some r):HC Try.prog 116 [] [.ii n] [] (.bool r):=by
 unfold F1 at h
 refine zH Try.func116 [.tmp 2] 5 ?_
 refine zo ?_
 refine zB [(0,.ii n)] [] ?_
 refine zo ?_
 refine zS 1 [(3,.ii n)] [] ?_
 obtain ⟨v0,hv1,h⟩:=zw h
 refine zC [] [] (q9 0 n 9 hv1) [(4,.bool v0)] [] ?_
 refine zB [(2,.bool v0)] [] ?_
 refine AW.ret ?_
 obtain rfl:=zj h
 exact zR [] [] []
end Go.Proofs.Ytenchhmcjmjlbaa
