import Derived.Test.YtkocijiclklbfaaCkp
import Derived.Test.YtkocijiclklbfaaShk
import Derived.Test.YtkocijiclklbfaaCkc10
import Derived.Test.YtkocijiclklbfaaCkc11
import Derived.Test.YtkocijiclklbfaaCkc7
import Derived.Test.YtkocijiclklbfaaCkc8
namespace Go.Proofs.Ytkocijiclklbfaa
open Go.RowKit
set_option linter.unusedSimpArgs false
set_option linter.unusedVariables false
set_option linter.constructorNameAsVariable false
set_option maxRecDepth 100000
set_option maxHeartbeats 40000000
theorem hc_linealref08_played (c:List (List (Int×Int×Int×Int))) (use:List (List Int)) (schedule:List Int) (marks:List Int) {r:Sum Unit ((List (Int×Int×Bool×Int×Int×Int×Int×Int))×Int×Int×Int×Int×ZH×(List Int))} (h:linealref08_played c use schedule marks=some r):HC Try.prog 39 [] [.sl (.sl (.pair (.int .i64) (.pair (.int .i64) (.pair (.int .i64) (.int .i64))))) c,.sl (.sl (.int .i64)) use,.sl (.int .i64) schedule,.sl (.int .i64) marks] (match r with|.inl r=>[]|.inr r=>[(2000,.box 72 [.sl (.sl (.pair (.int .i64) (.pair (.int .i64) (.pair (.int .i64) (.int .i64))))) c,.sl (.sl (.int .i64)) use,.sl (.int .i64) marks,.own 2001,.int .i64 r.2.1,.int .i64 r.2.2.1,.int .i64 r.2.2.2.1,.int .i64 r.2.2.2.2.1,.own 2002,.own 2003]),(2001,.arr 92 (.pair (.int .i64) (.pair (.int .i64) (.pair .bool (.pair (.int .i64) (.pair (.int .i64) (.pair (.int .i64) (.pair (.int .i64) (.int .i64)))))))) r.1),(2002,.arr 49 (.pair (.int .i64) (.pair (.int .i64) (.pair (.int .i64) (.pair (.int .i64) (.pair (.int .i64) (.int .i64)))))) r.2.2.2.2.2.1),(2003,.arr 3 (.int .i64) r.2.2.2.2.2.2)]) ((match r with|.inl r=>.cv (.pointer none)|.inr r=>.bp 2000 0)):=by
 unfold linealref08_played at h
 refine zH Try.func39 [.tmp 8] 49 ?_
 refine zo ?_
 refine zB [(0,.sl (.sl (.pair (.int .i64) (.pair (.int .i64) (.pair (.int .i64) (.int .i64))))) c),(1,.sl (.sl (.int .i64)) use),(2,.sl (.int .i64) schedule),(3,.sl (.int .i64) marks)] [] ?_
 refine AW.seq ?_
 refine zo ?_
 refine zB [(0,.sl (.sl (.pair (.int .i64) (.pair (.int .i64) (.pair (.int .i64) (.int .i64))))) c),(1,.sl (.sl (.int .i64)) use),(2,.sl (.int .i64) schedule),(3,.sl (.int .i64) marks),(13,.bool (decide (12<(schedule.length:Int))))] [] ?_
 refine zQ h (fun hb1 h=>?_) (fun hb1 h=>?_)
 ·refine zo ?_
  refine zB [(8,.cv (.pointer none))] [] ?_
  refine zr ?_
  obtain rfl:=Option.some.inj h
  exact zR [] [] []
 ·refine zk ?_
  refine zo ?_
  refine zS 3 [(1,.sl (.sl (.int .i64)) use),(2,.sl (.int .i64) schedule),(14,.sl (.sl (.pair (.int .i64) (.pair (.int .i64) (.pair (.int .i64) (.int .i64))))) c),(15,.sl (.sl (.int .i64)) use),(16,.sl (.int .i64) marks)] [] ?_
  obtain ⟨v0,hv2,h⟩:=Option.bind_eq_some_iff.1 h
  refine zC [] [] (hc_linealref08_Begin c use marks hv2) [(1,.sl (.sl (.int .i64)) use),(2,.sl (.int .i64) schedule),(17,.bp 27000 0)] [(27000,.box 72 [.sl (.sl (.pair (.int .i64) (.pair (.int .i64) (.pair (.int .i64) (.int .i64))))) c,.sl (.sl (.int .i64)) use,.sl (.int .i64) marks,.own 27001,.int .i64 0,.int .i64 0,.int .i64 0,.int .i64 0,.cv (.slice none 0 0),.cv (.slice none 0 0)]),(27001,.arr 92 (.pair (.int .i64) (.pair (.int .i64) (.pair .bool (.pair (.int .i64) (.pair (.int .i64) (.pair (.int .i64) (.pair (.int .i64) (.int .i64)))))))) (List.replicate use.length ((0,0,false,0,0,0,0,0):Int×Int×Bool×Int×Int×Int×Int×Int)))] ?_
  refine zB [(1,.sl (.sl (.int .i64)) use),(2,.sl (.int .i64) schedule),(9,.bp 27000 0)] [(27000,.box 72 [.sl (.sl (.pair (.int .i64) (.pair (.int .i64) (.pair (.int .i64) (.int .i64))))) c,.sl (.sl (.int .i64)) use,.sl (.int .i64) marks,.own 27001,.int .i64 0,.int .i64 0,.int .i64 0,.int .i64 0,.cv (.slice none 0 0),.cv (.slice none 0 0)]),(27001,.arr 92 (.pair (.int .i64) (.pair (.int .i64) (.pair .bool (.pair (.int .i64) (.pair (.int .i64) (.pair (.int .i64) (.pair (.int .i64) (.int .i64)))))))) (List.replicate use.length ((0,0,false,0,0,0,0,0):Int×Int×Bool×Int×Int×Int×Int×Int)))] ?_
  refine AW.have1 (fun b1:(List (Int×Int×Bool×Int×Int×Int×Int×Int))×Int×Int×Int×Int×ZH×(List Int)=>linealref08_played_k1 b1=some r) (fun b1=>⟨fr [(9,.bp 27000 0)],hpGet [(800,.arr 49 (.pair (.int .i64) (.pair (.int .i64) (.pair (.int .i64) (.pair (.int .i64) (.pair (.int .i64) (.int .i64)))))) b1.2.2.2.2.2.1),(801,.arr 3 (.int .i64) b1.2.2.2.2.2.2),(27000,.box 72 [.sl (.sl (.pair (.int .i64) (.pair (.int .i64) (.pair (.int .i64) (.int .i64))))) c,.sl (.sl (.int .i64)) use,.sl (.int .i64) marks,.own 27001,.int .i64 b1.2.1,.int .i64 b1.2.2.1,.int .i64 b1.2.2.2.1,.int .i64 b1.2.2.2.2.1,.own 800,.own 801]),(27001,.arr 92 (.pair (.int .i64) (.pair (.int .i64) (.pair .bool (.pair (.int .i64) (.pair (.int .i64) (.pair (.int .i64) (.pair (.int .i64) (.int .i64)))))))) b1.1)],gt⟩) (fun b1 h=>?_) (fun hk_linealref08_played_k1=>?_)
  ·as_aux_lemma =>
    unfold linealref08_played_k1 at h
    refine zo ?_
    refine zB [(8,.bp 27000 0)] [(800,.arr 49 (.pair (.int .i64) (.pair (.int .i64) (.pair (.int .i64) (.pair (.int .i64) (.pair (.int .i64) (.int .i64)))))) b1.2.2.2.2.2.1),(801,.arr 3 (.int .i64) b1.2.2.2.2.2.2),(27000,.box 72 [.sl (.sl (.pair (.int .i64) (.pair (.int .i64) (.pair (.int .i64) (.int .i64))))) c,.sl (.sl (.int .i64)) use,.sl (.int .i64) marks,.own 27001,.int .i64 b1.2.1,.int .i64 b1.2.2.1,.int .i64 b1.2.2.2.1,.int .i64 b1.2.2.2.2.1,.own 800,.own 801]),(27001,.arr 92 (.pair (.int .i64) (.pair (.int .i64) (.pair .bool (.pair (.int .i64) (.pair (.int .i64) (.pair (.int .i64) (.pair (.int .i64) (.int .i64)))))))) b1.1)] ?_
    refine AW.ret ?_
    obtain rfl:=Option.some.inj h
    exact zR [] [] [(2000,27000),(2001,27001),(2002,800),(2003,801)]
  ·refine AW.seq ?_
   refine zo ?_
   refine zB [(1,.sl (.sl (.int .i64)) use),(2,.sl (.int .i64) schedule),(9,.bp 27000 0),(10,.int .i64 0)] [(27000,.box 72 [.sl (.sl (.pair (.int .i64) (.pair (.int .i64) (.pair (.int .i64) (.int .i64))))) c,.sl (.sl (.int .i64)) use,.sl (.int .i64) marks,.own 27001,.int .i64 0,.int .i64 0,.int .i64 0,.int .i64 0,.cv (.slice none 0 0),.cv (.slice none 0 0)]),(27001,.arr 92 (.pair (.int .i64) (.pair (.int .i64) (.pair .bool (.pair (.int .i64) (.pair (.int .i64) (.pair (.int .i64) (.pair (.int .i64) (.int .i64)))))))) (List.replicate use.length ((0,0,false,0,0,0,0,0):Int×Int×Bool×Int×Int×Int×Int×Int)))] ?_
   refine AW.block ?_
   obtain ⟨rv7,hw3,ho4⟩:=Option.bind_eq_some_iff.1 h
   refine AW.loopO (linealref08_played_b1 c use schedule marks) (fun st1=>⟨fr [(1,.sl (.sl (.int .i64)) use),(2,.sl (.int .i64) schedule),(9,.bp 27000 0),(10,.int .i64 st1.2.2.2.2.2.2.2)],hpGet [(800,.arr 49 (.pair (.int .i64) (.pair (.int .i64) (.pair (.int .i64) (.pair (.int .i64) (.pair (.int .i64) (.int .i64)))))) st1.2.2.2.2.2.1),(801,.arr 3 (.int .i64) st1.2.2.2.2.2.2.1),(27000,.box 72 [.sl (.sl (.pair (.int .i64) (.pair (.int .i64) (.pair (.int .i64) (.int .i64))))) c,.sl (.sl (.int .i64)) use,.sl (.int .i64) marks,.own 27001,.int .i64 st1.2.1,.int .i64 st1.2.2.1,.int .i64 st1.2.2.2.1,.int .i64 st1.2.2.2.2.1,.own 800,.own 801]),(27001,.arr 92 (.pair (.int .i64) (.pair (.int .i64) (.pair .bool (.pair (.int .i64) (.pair (.int .i64) (.pair (.int .i64) (.pair (.int .i64) (.int .i64)))))))) st1.1)],gt⟩) ((List.replicate use.length ((0,0,false,0,0,0,0,0):Int×Int×Bool×Int×Int×Int×Int×Int)),0,0,0,0,[],[],0) hw3 (zL [] [800,801] []) ?_
   as_aux_lemma =>
    intro st1 x6 h hd5
    unfold linealref08_played_b1 at h
    refine AW.seq ?_
    refine zo ?_
    refine zB [(1,.sl (.sl (.int .i64)) use),(2,.sl (.int .i64) schedule),(9,.bp 27000 0),(10,.int .i64 st1.2.2.2.2.2.2.2),(21,.bool (decide (st1.2.2.2.2.2.2.2<(schedule.length:Int))))] [(800,.arr 49 (.pair (.int .i64) (.pair (.int .i64) (.pair (.int .i64) (.pair (.int .i64) (.pair (.int .i64) (.int .i64)))))) st1.2.2.2.2.2.1),(801,.arr 3 (.int .i64) st1.2.2.2.2.2.2.1),(27000,.box 72 [.sl (.sl (.pair (.int .i64) (.pair (.int .i64) (.pair (.int .i64) (.int .i64))))) c,.sl (.sl (.int .i64)) use,.sl (.int .i64) marks,.own 27001,.int .i64 st1.2.1,.int .i64 st1.2.2.1,.int .i64 st1.2.2.2.1,.int .i64 st1.2.2.2.2.1,.own 800,.own 801]),(27001,.arr 92 (.pair (.int .i64) (.pair (.int .i64) (.pair .bool (.pair (.int .i64) (.pair (.int .i64) (.pair (.int .i64) (.pair (.int .i64) (.int .i64)))))))) st1.1)] ?_
    refine zQ h (fun hb8 h=>?_) (fun hb8 h=>?_)
    ·refine zk ?_
     refine AW.seq ?_
     refine AW.block ?_
     refine AW.seq ?_
     refine zo ?_
     obtain ⟨c9,h⟩:=ck_some.1 h
     obtain ⟨c10,h⟩:=ck_some.1 h
     refine zS 5 [(1,.sl (.sl (.int .i64)) use),(2,.sl (.int .i64) schedule),(9,.bp 27000 0),(10,.int .i64 st1.2.2.2.2.2.2.2),(27,.int .i64 (schedule.getD st1.2.2.2.2.2.2.2.toNat 0)),(28,.sl (.sl (.int .i64)) use)] [(800,.arr 49 (.pair (.int .i64) (.pair (.int .i64) (.pair (.int .i64) (.pair (.int .i64) (.pair (.int .i64) (.int .i64)))))) st1.2.2.2.2.2.1),(801,.arr 3 (.int .i64) st1.2.2.2.2.2.2.1),(27000,.box 72 [.sl (.sl (.pair (.int .i64) (.pair (.int .i64) (.pair (.int .i64) (.int .i64))))) c,.sl (.sl (.int .i64)) use,.sl (.int .i64) marks,.own 27001,.int .i64 st1.2.1,.int .i64 st1.2.2.1,.int .i64 st1.2.2.2.1,.int .i64 st1.2.2.2.2.1,.own 800,.own 801]),(27001,.arr 92 (.pair (.int .i64) (.pair (.int .i64) (.pair .bool (.pair (.int .i64) (.pair (.int .i64) (.pair (.int .i64) (.pair (.int .i64) (.int .i64)))))))) st1.1)] ?_
     obtain ⟨c11,h⟩:=ck_some.1 h
     refine zS 2 [(1,.sl (.sl (.int .i64)) use),(2,.sl (.int .i64) schedule),(9,.bp 27000 0),(10,.int .i64 st1.2.2.2.2.2.2.2),(27,.int .i64 (schedule.getD st1.2.2.2.2.2.2.2.toNat 0)),(30,.int .i64 ((use.length:Int) - 1))] [(800,.arr 49 (.pair (.int .i64) (.pair (.int .i64) (.pair (.int .i64) (.pair (.int .i64) (.pair (.int .i64) (.int .i64)))))) st1.2.2.2.2.2.1),(801,.arr 3 (.int .i64) st1.2.2.2.2.2.2.1),(27000,.box 72 [.sl (.sl (.pair (.int .i64) (.pair (.int .i64) (.pair (.int .i64) (.int .i64))))) c,.sl (.sl (.int .i64)) use,.sl (.int .i64) marks,.own 27001,.int .i64 st1.2.1,.int .i64 st1.2.2.1,.int .i64 st1.2.2.2.1,.int .i64 st1.2.2.2.2.1,.own 800,.own 801]),(27001,.arr 92 (.pair (.int .i64) (.pair (.int .i64) (.pair .bool (.pair (.int .i64) (.pair (.int .i64) (.pair (.int .i64) (.pair (.int .i64) (.int .i64)))))))) st1.1)] ?_
     obtain ⟨v0_2,hv12,h⟩:=Option.bind_eq_some_iff.1 h
     refine zC [] [] (hc_linealref08_within 0 (schedule.getD st1.2.2.2.2.2.2.2.toNat 0) ((use.length:Int) - 1) hv12) [(1,.sl (.sl (.int .i64)) use),(2,.sl (.int .i64) schedule),(9,.bp 27000 0),(10,.int .i64 st1.2.2.2.2.2.2.2),(31,.bool v0_2)] [(800,.arr 49 (.pair (.int .i64) (.pair (.int .i64) (.pair (.int .i64) (.pair (.int .i64) (.pair (.int .i64) (.int .i64)))))) st1.2.2.2.2.2.1),(801,.arr 3 (.int .i64) st1.2.2.2.2.2.2.1),(27000,.box 72 [.sl (.sl (.pair (.int .i64) (.pair (.int .i64) (.pair (.int .i64) (.int .i64))))) c,.sl (.sl (.int .i64)) use,.sl (.int .i64) marks,.own 27001,.int .i64 st1.2.1,.int .i64 st1.2.2.1,.int .i64 st1.2.2.2.1,.int .i64 st1.2.2.2.2.1,.own 800,.own 801]),(27001,.arr 92 (.pair (.int .i64) (.pair (.int .i64) (.pair .bool (.pair (.int .i64) (.pair (.int .i64) (.pair (.int .i64) (.pair (.int .i64) (.int .i64)))))))) st1.1)] ?_
     refine zS 2 [(1,.sl (.sl (.int .i64)) use),(2,.sl (.int .i64) schedule),(9,.bp 27000 0),(10,.int .i64 st1.2.2.2.2.2.2.2),(33,.bool (!v0_2))] [(800,.arr 49 (.pair (.int .i64) (.pair (.int .i64) (.pair (.int .i64) (.pair (.int .i64) (.pair (.int .i64) (.int .i64)))))) st1.2.2.2.2.2.1),(801,.arr 3 (.int .i64) st1.2.2.2.2.2.2.1),(27000,.box 72 [.sl (.sl (.pair (.int .i64) (.pair (.int .i64) (.pair (.int .i64) (.int .i64))))) c,.sl (.sl (.int .i64)) use,.sl (.int .i64) marks,.own 27001,.int .i64 st1.2.1,.int .i64 st1.2.2.1,.int .i64 st1.2.2.2.1,.int .i64 st1.2.2.2.2.1,.own 800,.own 801]),(27001,.arr 92 (.pair (.int .i64) (.pair (.int .i64) (.pair .bool (.pair (.int .i64) (.pair (.int .i64) (.pair (.int .i64) (.pair (.int .i64) (.int .i64)))))))) st1.1)] ?_
     rcases zI h with ⟨hb13,h⟩|⟨hb13,h⟩
     ·refine zS 4 [(1,.sl (.sl (.int .i64)) use),(2,.sl (.int .i64) schedule),(9,.bp 27000 0),(10,.int .i64 st1.2.2.2.2.2.2.2),(33,.bool true),(34,.cv (undef)),(37,.cv (undef))] [(800,.arr 49 (.pair (.int .i64) (.pair (.int .i64) (.pair (.int .i64) (.pair (.int .i64) (.pair (.int .i64) (.int .i64)))))) st1.2.2.2.2.2.1),(801,.arr 3 (.int .i64) st1.2.2.2.2.2.2.1),(27000,.box 72 [.sl (.sl (.pair (.int .i64) (.pair (.int .i64) (.pair (.int .i64) (.int .i64))))) c,.sl (.sl (.int .i64)) use,.sl (.int .i64) marks,.own 27001,.int .i64 st1.2.1,.int .i64 st1.2.2.1,.int .i64 st1.2.2.2.1,.int .i64 st1.2.2.2.2.1,.own 800,.own 801]),(27001,.arr 92 (.pair (.int .i64) (.pair (.int .i64) (.pair .bool (.pair (.int .i64) (.pair (.int .i64) (.pair (.int .i64) (.pair (.int .i64) (.int .i64)))))))) st1.1)] ?_
      refine zB [(1,.sl (.sl (.int .i64)) use),(2,.sl (.int .i64) schedule),(9,.bp 27000 0),(10,.int .i64 st1.2.2.2.2.2.2.2),(41,.bool true)] [(800,.arr 49 (.pair (.int .i64) (.pair (.int .i64) (.pair (.int .i64) (.pair (.int .i64) (.pair (.int .i64) (.int .i64)))))) st1.2.2.2.2.2.1),(801,.arr 3 (.int .i64) st1.2.2.2.2.2.2.1),(27000,.box 72 [.sl (.sl (.pair (.int .i64) (.pair (.int .i64) (.pair (.int .i64) (.int .i64))))) c,.sl (.sl (.int .i64)) use,.sl (.int .i64) marks,.own 27001,.int .i64 st1.2.1,.int .i64 st1.2.2.1,.int .i64 st1.2.2.2.1,.int .i64 st1.2.2.2.2.1,.own 800,.own 801]),(27001,.arr 92 (.pair (.int .i64) (.pair (.int .i64) (.pair .bool (.pair (.int .i64) (.pair (.int .i64) (.pair (.int .i64) (.pair (.int .i64) (.int .i64)))))))) st1.1)] ?_
      refine AW.cond (b:=true) rfl (fun _=>?_) (fun hb14=>by cases hb14)
      refine zo ?_
      refine zB [(8,.cv (.pointer none))] [] ?_
      refine zr ?_
      refine ablock_r ?_
      refine athen_r ?_
      obtain rfl:=Option.some.inj h
      try rw [← hd5 _ rfl] at ho4
      have h:=ho4
      try simp only at h
      refine athen_r ?_
      refine ablock_r ?_
      refine athen_r ?_
      obtain rfl:=Option.some.inj h
      exact zR [] [] []
     ·obtain ⟨c15,h⟩:=ck_some.1 h
      obtain ⟨c16,h⟩:=ck_some.1 h
      refine zS 5 [(1,.sl (.sl (.int .i64)) use),(2,.sl (.int .i64) schedule),(9,.bp 27000 0),(10,.int .i64 st1.2.2.2.2.2.2.2),(33,.bool false),(34,.bp 27000 0),(38,.int .i64 (schedule.getD st1.2.2.2.2.2.2.2.toNat 0))] [(800,.arr 49 (.pair (.int .i64) (.pair (.int .i64) (.pair (.int .i64) (.pair (.int .i64) (.pair (.int .i64) (.int .i64)))))) st1.2.2.2.2.2.1),(801,.arr 3 (.int .i64) st1.2.2.2.2.2.2.1),(27000,.box 72 [.sl (.sl (.pair (.int .i64) (.pair (.int .i64) (.pair (.int .i64) (.int .i64))))) c,.sl (.sl (.int .i64)) use,.sl (.int .i64) marks,.own 27001,.int .i64 st1.2.1,.int .i64 st1.2.2.1,.int .i64 st1.2.2.2.1,.int .i64 st1.2.2.2.2.1,.own 800,.own 801]),(27001,.arr 92 (.pair (.int .i64) (.pair (.int .i64) (.pair .bool (.pair (.int .i64) (.pair (.int .i64) (.pair (.int .i64) (.pair (.int .i64) (.int .i64)))))))) st1.1)] ?_
      obtain ⟨v0_3,hv17,h⟩:=Option.bind_eq_some_iff.1 h
      refine zG [] [(1000,27000),(1001,27001),(1002,800),(1003,801)] (hc_linealref08_Play_HasLine_2 (schedule.getD st1.2.2.2.2.2.2.2.toNat 0) c use marks st1.2.1 st1.2.2.1 st1.2.2.2.1 st1.2.2.2.2.1 st1.1 st1.2.2.2.2.2.1 st1.2.2.2.2.2.2.1 hv17) [(1,.sl (.sl (.int .i64)) use),(2,.sl (.int .i64) schedule),(9,.bp 27000 0),(10,.int .i64 st1.2.2.2.2.2.2.2),(33,.bool false),(39,.bool v0_3)] [(800,.arr 49 (.pair (.int .i64) (.pair (.int .i64) (.pair (.int .i64) (.pair (.int .i64) (.pair (.int .i64) (.int .i64)))))) st1.2.2.2.2.2.1),(801,.arr 3 (.int .i64) st1.2.2.2.2.2.2.1),(27000,.box 72 [.sl (.sl (.pair (.int .i64) (.pair (.int .i64) (.pair (.int .i64) (.int .i64))))) c,.sl (.sl (.int .i64)) use,.sl (.int .i64) marks,.own 27001,.int .i64 st1.2.1,.int .i64 st1.2.2.1,.int .i64 st1.2.2.2.1,.int .i64 st1.2.2.2.2.1,.own 800,.own 801]),(27001,.arr 92 (.pair (.int .i64) (.pair (.int .i64) (.pair .bool (.pair (.int .i64) (.pair (.int .i64) (.pair (.int .i64) (.pair (.int .i64) (.int .i64)))))))) st1.1)] ?_
      refine zB [(1,.sl (.sl (.int .i64)) use),(2,.sl (.int .i64) schedule),(9,.bp 27000 0),(10,.int .i64 st1.2.2.2.2.2.2.2),(41,.bool (!v0_3))] [(800,.arr 49 (.pair (.int .i64) (.pair (.int .i64) (.pair (.int .i64) (.pair (.int .i64) (.pair (.int .i64) (.int .i64)))))) st1.2.2.2.2.2.1),(801,.arr 3 (.int .i64) st1.2.2.2.2.2.2.1),(27000,.box 72 [.sl (.sl (.pair (.int .i64) (.pair (.int .i64) (.pair (.int .i64) (.int .i64))))) c,.sl (.sl (.int .i64)) use,.sl (.int .i64) marks,.own 27001,.int .i64 st1.2.1,.int .i64 st1.2.2.1,.int .i64 st1.2.2.2.1,.int .i64 st1.2.2.2.2.1,.own 800,.own 801]),(27001,.arr 92 (.pair (.int .i64) (.pair (.int .i64) (.pair .bool (.pair (.int .i64) (.pair (.int .i64) (.pair (.int .i64) (.pair (.int .i64) (.int .i64)))))))) st1.1)] ?_
      refine zQ h (fun hb18 h=>?_) (fun hb18 h=>?_)
      ·refine zo ?_
       refine zB [(8,.cv (.pointer none))] [] ?_
       refine zr ?_
       refine ablock_r ?_
       refine athen_r ?_
       obtain rfl:=Option.some.inj h
       try rw [← hd5 _ rfl] at ho4
       have h:=ho4
       try simp only at h
       refine athen_r ?_
       refine ablock_r ?_
       refine athen_r ?_
       obtain rfl:=Option.some.inj h
       exact zR [] [] []
      ·refine zk ?_
       refine AW.ops ?_
       obtain ⟨c19,h⟩:=ck_some.1 h
       obtain ⟨c20,h⟩:=ck_some.1 h
       refine zS 5 [(1,.sl (.sl (.int .i64)) use),(2,.sl (.int .i64) schedule),(9,.bp 27000 0),(10,.int .i64 st1.2.2.2.2.2.2.2),(42,.bp 27000 0),(46,.int .i64 (schedule.getD st1.2.2.2.2.2.2.2.toNat 0))] [(800,.arr 49 (.pair (.int .i64) (.pair (.int .i64) (.pair (.int .i64) (.pair (.int .i64) (.pair (.int .i64) (.int .i64)))))) st1.2.2.2.2.2.1),(801,.arr 3 (.int .i64) st1.2.2.2.2.2.2.1),(27000,.box 72 [.sl (.sl (.pair (.int .i64) (.pair (.int .i64) (.pair (.int .i64) (.int .i64))))) c,.sl (.sl (.int .i64)) use,.sl (.int .i64) marks,.own 27001,.int .i64 st1.2.1,.int .i64 st1.2.2.1,.int .i64 st1.2.2.2.1,.int .i64 st1.2.2.2.2.1,.own 800,.own 801]),(27001,.arr 92 (.pair (.int .i64) (.pair (.int .i64) (.pair .bool (.pair (.int .i64) (.pair (.int .i64) (.pair (.int .i64) (.pair (.int .i64) (.int .i64)))))))) st1.1)] ?_
       obtain ⟨v0_4,hv21,h⟩:=Option.bind_eq_some_iff.1 h
       refine zC [] [(1000,27000),(1001,27001),(1002,800),(1003,801)] (hc_linealref08_Play_Step_2 (schedule.getD st1.2.2.2.2.2.2.2.toNat 0) c use marks st1.2.1 st1.2.2.1 st1.2.2.2.1 st1.2.2.2.2.1 st1.1 st1.2.2.2.2.2.1 st1.2.2.2.2.2.2.1 hv21) [(1,.sl (.sl (.int .i64)) use),(2,.sl (.int .i64) schedule),(9,.bp 27000 0),(10,.int .i64 st1.2.2.2.2.2.2.2)] [(27000,.box 72 [.sl (.sl (.pair (.int .i64) (.pair (.int .i64) (.pair (.int .i64) (.int .i64))))) c,.sl (.sl (.int .i64)) use,.sl (.int .i64) marks,.own 27001,.int .i64 (st1.2.1+1),.int .i64 v0_4.2.1,.int .i64 v0_4.2.2.1,.int .i64 v0_4.2.2.2.1,.own 57000,.own 57001]),(27001,.arr 92 (.pair (.int .i64) (.pair (.int .i64) (.pair .bool (.pair (.int .i64) (.pair (.int .i64) (.pair (.int .i64) (.pair (.int .i64) (.int .i64)))))))) v0_4.1),(57000,.arr 49 (.pair (.int .i64) (.pair (.int .i64) (.pair (.int .i64) (.pair (.int .i64) (.pair (.int .i64) (.int .i64)))))) v0_4.2.2.2.2.1),(57001,.arr 3 (.int .i64) v0_4.2.2.2.2.2)] ?_
       refine zA [(1,.sl (.sl (.int .i64)) use),(2,.sl (.int .i64) schedule),(9,.bp 27000 0),(10,.int .i64 st1.2.2.2.2.2.2.2)] [(27000,.box 72 [.sl (.sl (.pair (.int .i64) (.pair (.int .i64) (.pair (.int .i64) (.int .i64))))) c,.sl (.sl (.int .i64)) use,.sl (.int .i64) marks,.own 27001,.int .i64 (st1.2.1+1),.int .i64 v0_4.2.1,.int .i64 v0_4.2.2.1,.int .i64 v0_4.2.2.2.1,.own 57000,.own 57001]),(27001,.arr 92 (.pair (.int .i64) (.pair (.int .i64) (.pair .bool (.pair (.int .i64) (.pair (.int .i64) (.pair (.int .i64) (.pair (.int .i64) (.int .i64)))))))) v0_4.1),(57000,.arr 49 (.pair (.int .i64) (.pair (.int .i64) (.pair (.int .i64) (.pair (.int .i64) (.pair (.int .i64) (.int .i64)))))) v0_4.2.2.2.2.1),(57001,.arr 3 (.int .i64) v0_4.2.2.2.2.2)] ?_
       refine ablock_n ?_
       refine athen_n ?_
       refine AW.ops ?_
       obtain ⟨c22,h⟩:=ck_some.1 h
       refine zA [(1,.sl (.sl (.int .i64)) use),(2,.sl (.int .i64) schedule),(9,.bp 27000 0),(10,.int .i64 (st1.2.2.2.2.2.2.2+1))] [(27000,.box 72 [.sl (.sl (.pair (.int .i64) (.pair (.int .i64) (.pair (.int .i64) (.int .i64))))) c,.sl (.sl (.int .i64)) use,.sl (.int .i64) marks,.own 27001,.int .i64 (st1.2.1+1),.int .i64 v0_4.2.1,.int .i64 v0_4.2.2.1,.int .i64 v0_4.2.2.2.1,.own 57000,.own 57001]),(27001,.arr 92 (.pair (.int .i64) (.pair (.int .i64) (.pair .bool (.pair (.int .i64) (.pair (.int .i64) (.pair (.int .i64) (.pair (.int .i64) (.int .i64)))))))) v0_4.1),(57000,.arr 49 (.pair (.int .i64) (.pair (.int .i64) (.pair (.int .i64) (.pair (.int .i64) (.pair (.int .i64) (.int .i64)))))) v0_4.2.2.2.2.1),(57001,.arr 3 (.int .i64) v0_4.2.2.2.2.2)] ?_
       obtain rfl:=Option.some.inj h
       exact ⟨_,rfl,zL [] [] [(800,57000),(801,57001)]⟩
    ·refine AW.exit ?_
     refine athen_e ?_
     obtain rfl:=Option.some.inj h
     rw [← hd5 _ rfl] at ho4
     have h:=ho4
     try simp only at h
     refine athen_e ?_
     refine ablock_s ?_
     refine athen_n ?_
     exact AW.weaken (zL [] [] []) (hk_linealref08_played_k1 _ h)
theorem hc_linealref08_played_a0 (c:List (List (Int×Int×Int×Int))) (use:List (List Int)) (schedule:List Int) (marks:List Int) {r:Unit} (h:linealref08_played c use schedule marks=some (Sum.inl r)):HC Try.prog 39 [] [.sl (.sl (.pair (.int .i64) (.pair (.int .i64) (.pair (.int .i64) (.int .i64))))) c,.sl (.sl (.int .i64)) use,.sl (.int .i64) schedule,.sl (.int .i64) marks] [] (.cv (.pointer none)):=hc_linealref08_played c use schedule marks h
theorem hc_linealref08_played_a1 (c:List (List (Int×Int×Int×Int))) (use:List (List Int)) (schedule:List Int) (marks:List Int) {r:(List (Int×Int×Bool×Int×Int×Int×Int×Int))×Int×Int×Int×Int×ZH×(List Int)} (h:linealref08_played c use schedule marks=some (Sum.inr r)):HC Try.prog 39 [] [.sl (.sl (.pair (.int .i64) (.pair (.int .i64) (.pair (.int .i64) (.int .i64))))) c,.sl (.sl (.int .i64)) use,.sl (.int .i64) schedule,.sl (.int .i64) marks] [(2000,.box 72 [.sl (.sl (.pair (.int .i64) (.pair (.int .i64) (.pair (.int .i64) (.int .i64))))) c,.sl (.sl (.int .i64)) use,.sl (.int .i64) marks,.own 2001,.int .i64 r.2.1,.int .i64 r.2.2.1,.int .i64 r.2.2.2.1,.int .i64 r.2.2.2.2.1,.own 2002,.own 2003]),(2001,.arr 92 (.pair (.int .i64) (.pair (.int .i64) (.pair .bool (.pair (.int .i64) (.pair (.int .i64) (.pair (.int .i64) (.pair (.int .i64) (.int .i64)))))))) r.1),(2002,.arr 49 (.pair (.int .i64) (.pair (.int .i64) (.pair (.int .i64) (.pair (.int .i64) (.pair (.int .i64) (.int .i64)))))) r.2.2.2.2.2.1),(2003,.arr 3 (.int .i64) r.2.2.2.2.2.2)] (.bp 2000 0):=hc_linealref08_played c use schedule marks h
theorem hc_linealref08_run (c:List (List (Int×Int×Int×Int))) (use:List (List Int)) (schedule:List Int) {r:Sum Int ((List (Int×Int×Bool×Int×Int×Int×Int×Int))×Int×Int×Int×Int×ZH×(List Int))} (h:linealref08_run c use schedule=some r):HC Try.prog 23 [] [.sl (.sl (.pair (.int .i64) (.pair (.int .i64) (.pair (.int .i64) (.int .i64))))) c,.sl (.sl (.int .i64)) use,.sl (.int .i64) schedule] (match r with|.inl r=>[]|.inr r=>[(2000,.box 72 [.sl (.sl (.pair (.int .i64) (.pair (.int .i64) (.pair (.int .i64) (.int .i64))))) c,.sl (.sl (.int .i64)) use,.sl (.int .i64) [],.own 2001,.int .i64 r.2.1,.int .i64 r.2.2.1,.int .i64 r.2.2.2.1,.int .i64 r.2.2.2.2.1,.own 2002,.own 2003]),(2001,.arr 92 (.pair (.int .i64) (.pair (.int .i64) (.pair .bool (.pair (.int .i64) (.pair (.int .i64) (.pair (.int .i64) (.pair (.int .i64) (.int .i64)))))))) r.1),(2002,.arr 49 (.pair (.int .i64) (.pair (.int .i64) (.pair (.int .i64) (.pair (.int .i64) (.pair (.int .i64) (.int .i64)))))) r.2.2.2.2.2.1),(2003,.arr 3 (.int .i64) r.2.2.2.2.2.2)]) ((match r with|.inl r=>.tup [.cv (.pointer none),.int .i64 r]|.inr r=>.tup [.bp 2000 0,.int .i64 0])):=by
 unfold linealref08_run at h
 refine zH Try.func23 [.tmp 6,.tmp 7] 23 ?_
 refine zo ?_
 refine zB [(0,.sl (.sl (.pair (.int .i64) (.pair (.int .i64) (.pair (.int .i64) (.int .i64))))) c),(1,.sl (.sl (.int .i64)) use),(2,.sl (.int .i64) schedule)] [] ?_
 refine zo ?_
 refine zS 2 [(0,.sl (.sl (.pair (.int .i64) (.pair (.int .i64) (.pair (.int .i64) (.int .i64))))) c),(1,.sl (.sl (.int .i64)) use),(2,.sl (.int .i64) schedule),(10,.sl (.sl (.pair (.int .i64) (.pair (.int .i64) (.pair (.int .i64) (.int .i64))))) c),(11,.sl (.sl (.int .i64)) use)] [] ?_
 obtain ⟨v0,hv1,h⟩:=Option.bind_eq_some_iff.1 h
 refine zC [] [] (hc_linealref08_asked c use hv1) [(0,.sl (.sl (.pair (.int .i64) (.pair (.int .i64) (.pair (.int .i64) (.int .i64))))) c),(1,.sl (.sl (.int .i64)) use),(2,.sl (.int .i64) schedule),(12,.int .i64 v0)] [] ?_
 refine zB [(0,.sl (.sl (.pair (.int .i64) (.pair (.int .i64) (.pair (.int .i64) (.int .i64))))) c),(1,.sl (.sl (.int .i64)) use),(2,.sl (.int .i64) schedule),(8,.int .i64 v0)] [] ?_
 refine AW.seq ?_
 refine zo ?_
 refine zB [(0,.sl (.sl (.pair (.int .i64) (.pair (.int .i64) (.pair (.int .i64) (.int .i64))))) c),(1,.sl (.sl (.int .i64)) use),(2,.sl (.int .i64) schedule),(8,.int .i64 v0),(14,.bool (!(decide (v0=0))))] [] ?_
 refine zQ h (fun hb2 h=>?_) (fun hb2 h=>?_)
 ·refine zo ?_
  refine zB [(6,.cv (.pointer none)),(7,.int .i64 v0)] [] ?_
  refine zr ?_
  obtain rfl:=Option.some.inj h
  exact zR [] [] []
 ·refine zk ?_
  refine zo ?_
  refine zS 3 [(16,.sl (.sl (.pair (.int .i64) (.pair (.int .i64) (.pair (.int .i64) (.int .i64))))) c),(17,.sl (.sl (.int .i64)) use),(18,.sl (.int .i64) schedule)] [] ?_
  obtain ⟨v0_2,hv3,h⟩:=Option.bind_eq_some_iff.1 h
  rcases v0_2 with v0_3|v0_4
  ·try simp only at h
   refine zC [] [] (hc_linealref08_played_a0 c use schedule [] hv3) [(19,.cv (.pointer none))] [] ?_
   refine zB [(9,.cv (.pointer none))] [] ?_
   refine AW.seq ?_
   refine zo ?_
   refine zS 1 [(9,.cv (.pointer none)),(20,.cv (.pointer none))] [] ?_
   refine AO.ptrNil (neg:=false) (p:=true) (by decide) (.inl rfl) (by kernel_rfl) rfl rfl rfl ?_
   refine zT [(9,.cv (.pointer none)),(21,.bool true)] [] gt ?_
   refine zB [(9,.cv (.pointer none)),(21,.bool true)] [] ?_
   refine AW.cond (b:=true) rfl (fun _=>?_) (fun hb4=>by cases hb4)
   refine zo ?_
   refine zB [(6,.cv (.pointer none)),(7,.int .i64 2)] [] ?_
   refine zr ?_
   obtain rfl:=Option.some.inj h
   exact zR [] [] []
  ·try simp only at h
   refine zC [] [] (hc_linealref08_played_a1 c use schedule [] hv3) [(19,.bp 29000 0)] [(29000,.box 72 [.sl (.sl (.pair (.int .i64) (.pair (.int .i64) (.pair (.int .i64) (.int .i64))))) c,.sl (.sl (.int .i64)) use,.sl (.int .i64) [],.own 29001,.int .i64 v0_4.2.1,.int .i64 v0_4.2.2.1,.int .i64 v0_4.2.2.2.1,.int .i64 v0_4.2.2.2.2.1,.own 29002,.own 29003]),(29001,.arr 92 (.pair (.int .i64) (.pair (.int .i64) (.pair .bool (.pair (.int .i64) (.pair (.int .i64) (.pair (.int .i64) (.pair (.int .i64) (.int .i64)))))))) v0_4.1),(29002,.arr 49 (.pair (.int .i64) (.pair (.int .i64) (.pair (.int .i64) (.pair (.int .i64) (.pair (.int .i64) (.int .i64)))))) v0_4.2.2.2.2.2.1),(29003,.arr 3 (.int .i64) v0_4.2.2.2.2.2.2)] ?_
   refine zB [(9,.bp 29000 0)] [(29000,.box 72 [.sl (.sl (.pair (.int .i64) (.pair (.int .i64) (.pair (.int .i64) (.int .i64))))) c,.sl (.sl (.int .i64)) use,.sl (.int .i64) [],.own 29001,.int .i64 v0_4.2.1,.int .i64 v0_4.2.2.1,.int .i64 v0_4.2.2.2.1,.int .i64 v0_4.2.2.2.2.1,.own 29002,.own 29003]),(29001,.arr 92 (.pair (.int .i64) (.pair (.int .i64) (.pair .bool (.pair (.int .i64) (.pair (.int .i64) (.pair (.int .i64) (.pair (.int .i64) (.int .i64)))))))) v0_4.1),(29002,.arr 49 (.pair (.int .i64) (.pair (.int .i64) (.pair (.int .i64) (.pair (.int .i64) (.pair (.int .i64) (.int .i64)))))) v0_4.2.2.2.2.2.1),(29003,.arr 3 (.int .i64) v0_4.2.2.2.2.2.2)] ?_
   refine AW.seq ?_
   refine zo ?_
   refine zS 1 [(9,.bp 29000 0),(20,.bp 29000 0)] [(29000,.box 72 [.sl (.sl (.pair (.int .i64) (.pair (.int .i64) (.pair (.int .i64) (.int .i64))))) c,.sl (.sl (.int .i64)) use,.sl (.int .i64) [],.own 29001,.int .i64 v0_4.2.1,.int .i64 v0_4.2.2.1,.int .i64 v0_4.2.2.2.1,.int .i64 v0_4.2.2.2.2.1,.own 29002,.own 29003]),(29001,.arr 92 (.pair (.int .i64) (.pair (.int .i64) (.pair .bool (.pair (.int .i64) (.pair (.int .i64) (.pair (.int .i64) (.pair (.int .i64) (.int .i64)))))))) v0_4.1),(29002,.arr 49 (.pair (.int .i64) (.pair (.int .i64) (.pair (.int .i64) (.pair (.int .i64) (.pair (.int .i64) (.int .i64)))))) v0_4.2.2.2.2.2.1),(29003,.arr 3 (.int .i64) v0_4.2.2.2.2.2.2)] ?_
   refine AO.ptrNil (neg:=false) (p:=false) (by decide) (.inl rfl) (by kernel_rfl) rfl rfl rfl ?_
   refine zT [(9,.bp 29000 0),(21,.bool false)] [(29000,.box 72 [.sl (.sl (.pair (.int .i64) (.pair (.int .i64) (.pair (.int .i64) (.int .i64))))) c,.sl (.sl (.int .i64)) use,.sl (.int .i64) [],.own 29001,.int .i64 v0_4.2.1,.int .i64 v0_4.2.2.1,.int .i64 v0_4.2.2.2.1,.int .i64 v0_4.2.2.2.2.1,.own 29002,.own 29003]),(29001,.arr 92 (.pair (.int .i64) (.pair (.int .i64) (.pair .bool (.pair (.int .i64) (.pair (.int .i64) (.pair (.int .i64) (.pair (.int .i64) (.int .i64)))))))) v0_4.1),(29002,.arr 49 (.pair (.int .i64) (.pair (.int .i64) (.pair (.int .i64) (.pair (.int .i64) (.pair (.int .i64) (.int .i64)))))) v0_4.2.2.2.2.2.1),(29003,.arr 3 (.int .i64) v0_4.2.2.2.2.2.2)] gt ?_
   refine zB [(9,.bp 29000 0),(21,.bool false)] [(29000,.box 72 [.sl (.sl (.pair (.int .i64) (.pair (.int .i64) (.pair (.int .i64) (.int .i64))))) c,.sl (.sl (.int .i64)) use,.sl (.int .i64) [],.own 29001,.int .i64 v0_4.2.1,.int .i64 v0_4.2.2.1,.int .i64 v0_4.2.2.2.1,.int .i64 v0_4.2.2.2.2.1,.own 29002,.own 29003]),(29001,.arr 92 (.pair (.int .i64) (.pair (.int .i64) (.pair .bool (.pair (.int .i64) (.pair (.int .i64) (.pair (.int .i64) (.pair (.int .i64) (.int .i64)))))))) v0_4.1),(29002,.arr 49 (.pair (.int .i64) (.pair (.int .i64) (.pair (.int .i64) (.pair (.int .i64) (.pair (.int .i64) (.int .i64)))))) v0_4.2.2.2.2.2.1),(29003,.arr 3 (.int .i64) v0_4.2.2.2.2.2.2)] ?_
   refine AW.cond (b:=false) rfl (fun hb5=>by cases hb5) (fun _=>?_)
   refine zk ?_
   refine zo ?_
   refine zB [(6,.bp 29000 0),(7,.int .i64 0)] [(29000,.box 72 [.sl (.sl (.pair (.int .i64) (.pair (.int .i64) (.pair (.int .i64) (.int .i64))))) c,.sl (.sl (.int .i64)) use,.sl (.int .i64) [],.own 29001,.int .i64 v0_4.2.1,.int .i64 v0_4.2.2.1,.int .i64 v0_4.2.2.2.1,.int .i64 v0_4.2.2.2.2.1,.own 29002,.own 29003]),(29001,.arr 92 (.pair (.int .i64) (.pair (.int .i64) (.pair .bool (.pair (.int .i64) (.pair (.int .i64) (.pair (.int .i64) (.pair (.int .i64) (.int .i64)))))))) v0_4.1),(29002,.arr 49 (.pair (.int .i64) (.pair (.int .i64) (.pair (.int .i64) (.pair (.int .i64) (.pair (.int .i64) (.int .i64)))))) v0_4.2.2.2.2.2.1),(29003,.arr 3 (.int .i64) v0_4.2.2.2.2.2.2)] ?_
   refine AW.ret ?_
   obtain rfl:=Option.some.inj h
   exact zR [] [] [(2000,29000),(2001,29001),(2002,29002),(2003,29003)]
theorem hc_linealref08_run_a0 (c:List (List (Int×Int×Int×Int))) (use:List (List Int)) (schedule:List Int) {r:Int} (h:linealref08_run c use schedule=some (Sum.inl r)):HC Try.prog 23 [] [.sl (.sl (.pair (.int .i64) (.pair (.int .i64) (.pair (.int .i64) (.int .i64))))) c,.sl (.sl (.int .i64)) use,.sl (.int .i64) schedule] [] (.tup [.cv (.pointer none),.int .i64 r]):=hc_linealref08_run c use schedule h
theorem hc_linealref08_run_a1 (c:List (List (Int×Int×Int×Int))) (use:List (List Int)) (schedule:List Int) {r:(List (Int×Int×Bool×Int×Int×Int×Int×Int))×Int×Int×Int×Int×ZH×(List Int)} (h:linealref08_run c use schedule=some (Sum.inr r)):HC Try.prog 23 [] [.sl (.sl (.pair (.int .i64) (.pair (.int .i64) (.pair (.int .i64) (.int .i64))))) c,.sl (.sl (.int .i64)) use,.sl (.int .i64) schedule] [(2000,.box 72 [.sl (.sl (.pair (.int .i64) (.pair (.int .i64) (.pair (.int .i64) (.int .i64))))) c,.sl (.sl (.int .i64)) use,.sl (.int .i64) [],.own 2001,.int .i64 r.2.1,.int .i64 r.2.2.1,.int .i64 r.2.2.2.1,.int .i64 r.2.2.2.2.1,.own 2002,.own 2003]),(2001,.arr 92 (.pair (.int .i64) (.pair (.int .i64) (.pair .bool (.pair (.int .i64) (.pair (.int .i64) (.pair (.int .i64) (.pair (.int .i64) (.int .i64)))))))) r.1),(2002,.arr 49 (.pair (.int .i64) (.pair (.int .i64) (.pair (.int .i64) (.pair (.int .i64) (.pair (.int .i64) (.int .i64)))))) r.2.2.2.2.2.1),(2003,.arr 3 (.int .i64) r.2.2.2.2.2.2)] (.tup [.bp 2000 0,.int .i64 0]):=hc_linealref08_run c use schedule h
theorem hc_linealref08_Run (c:List (List (Int×Int×Int×Int))) (use:List (List Int)) (schedule:List Int) {r:ZH×Int} (h:linealref08_Run c use schedule=some r):HC Try.prog 9 [] [.sl (.sl (.pair (.int .i64) (.pair (.int .i64) (.pair (.int .i64) (.int .i64))))) c,.sl (.sl (.int .i64)) use,.sl (.int .i64) schedule] [(2000,.arr 49 (.pair (.int .i64) (.pair (.int .i64) (.pair (.int .i64) (.pair (.int .i64) (.pair (.int .i64) (.int .i64)))))) r.1)] (.tup [.own 2000,.int .i64 r.2]):=by
 unfold linealref08_Run at h
 refine zH Try.func9 [.tmp 6,.tmp 7] 24 ?_
 refine zo ?_
 refine zB [(0,.sl (.sl (.pair (.int .i64) (.pair (.int .i64) (.pair (.int .i64) (.int .i64))))) c),(1,.sl (.sl (.int .i64)) use),(2,.sl (.int .i64) schedule)] [] ?_
 refine zo ?_
 refine zS 3 [(11,.sl (.sl (.pair (.int .i64) (.pair (.int .i64) (.pair (.int .i64) (.int .i64))))) c),(12,.sl (.sl (.int .i64)) use),(13,.sl (.int .i64) schedule)] [] ?_
 obtain ⟨v0,hv1,h⟩:=Option.bind_eq_some_iff.1 h
 rcases v0 with v0_2|v0_3
 ·try simp only at h
  refine zC [] [] (hc_linealref08_run_a0 c use schedule hv1) [(14,.tup [.cv (.pointer none),.int .i64 v0_2])] [] ?_
  refine zB [(8,.cv (.pointer none)),(9,.int .i64 v0_2)] [] ?_
  refine AW.seq ?_
  refine zo ?_
  refine zB [(8,.cv (.pointer none)),(9,.int .i64 v0_2),(18,.bool (!(decide (v0_2=0))))] [] ?_
  refine zQ h (fun hb2 h=>?_) (fun hb2 h=>?_)
  ·refine zo ?_
   refine zB [(6,.cv (.slice none 0 0)),(7,.int .i64 v0_2)] [] ?_
   refine zr ?_
   obtain rfl:=Option.some.inj h
   exact zR [] [2000] []
  ·refine zk ?_
   refine zo ?_
   cases h
 ·try simp only at h
  refine zC [] [] (hc_linealref08_run_a1 c use schedule hv1) [(14,.tup [.bp 24000 0,.int .i64 0])] [(24000,.box 72 [.sl (.sl (.pair (.int .i64) (.pair (.int .i64) (.pair (.int .i64) (.int .i64))))) c,.sl (.sl (.int .i64)) use,.sl (.int .i64) [],.own 24001,.int .i64 v0_3.2.1,.int .i64 v0_3.2.2.1,.int .i64 v0_3.2.2.2.1,.int .i64 v0_3.2.2.2.2.1,.own 24002,.own 24003]),(24001,.arr 92 (.pair (.int .i64) (.pair (.int .i64) (.pair .bool (.pair (.int .i64) (.pair (.int .i64) (.pair (.int .i64) (.pair (.int .i64) (.int .i64)))))))) v0_3.1),(24002,.arr 49 (.pair (.int .i64) (.pair (.int .i64) (.pair (.int .i64) (.pair (.int .i64) (.pair (.int .i64) (.int .i64)))))) v0_3.2.2.2.2.2.1),(24003,.arr 3 (.int .i64) v0_3.2.2.2.2.2.2)] ?_
  refine zB [(8,.bp 24000 0),(9,.int .i64 0)] [(24000,.box 72 [.sl (.sl (.pair (.int .i64) (.pair (.int .i64) (.pair (.int .i64) (.int .i64))))) c,.sl (.sl (.int .i64)) use,.sl (.int .i64) [],.own 24001,.int .i64 v0_3.2.1,.int .i64 v0_3.2.2.1,.int .i64 v0_3.2.2.2.1,.int .i64 v0_3.2.2.2.2.1,.own 24002,.own 24003]),(24001,.arr 92 (.pair (.int .i64) (.pair (.int .i64) (.pair .bool (.pair (.int .i64) (.pair (.int .i64) (.pair (.int .i64) (.pair (.int .i64) (.int .i64)))))))) v0_3.1),(24002,.arr 49 (.pair (.int .i64) (.pair (.int .i64) (.pair (.int .i64) (.pair (.int .i64) (.pair (.int .i64) (.int .i64)))))) v0_3.2.2.2.2.2.1),(24003,.arr 3 (.int .i64) v0_3.2.2.2.2.2.2)] ?_
  refine AW.seq ?_
  refine zo ?_
  have hx3:(!decide ((0:Int)=0))=false:=rfl
  refine zB [(8,.bp 24000 0),(9,.int .i64 0),(18,.bool false)] [(24000,.box 72 [.sl (.sl (.pair (.int .i64) (.pair (.int .i64) (.pair (.int .i64) (.int .i64))))) c,.sl (.sl (.int .i64)) use,.sl (.int .i64) [],.own 24001,.int .i64 v0_3.2.1,.int .i64 v0_3.2.2.1,.int .i64 v0_3.2.2.2.1,.int .i64 v0_3.2.2.2.2.1,.own 24002,.own 24003]),(24001,.arr 92 (.pair (.int .i64) (.pair (.int .i64) (.pair .bool (.pair (.int .i64) (.pair (.int .i64) (.pair (.int .i64) (.pair (.int .i64) (.int .i64)))))))) v0_3.1),(24002,.arr 49 (.pair (.int .i64) (.pair (.int .i64) (.pair (.int .i64) (.pair (.int .i64) (.pair (.int .i64) (.int .i64)))))) v0_3.2.2.2.2.2.1),(24003,.arr 3 (.int .i64) v0_3.2.2.2.2.2.2)] ?_
  refine AW.cond (b:=false) rfl (fun hb4=>by cases hb4) (fun _=>?_)
  refine zk ?_
  refine zo ?_
  refine zS 5 [(6,.own 24002)] [(24002,.arr 49 (.pair (.int .i64) (.pair (.int .i64) (.pair (.int .i64) (.pair (.int .i64) (.pair (.int .i64) (.int .i64)))))) v0_3.2.2.2.2.2.1)] ?_
  refine zB [(6,.own 24002),(7,.int .i64 0)] [(24002,.arr 49 (.pair (.int .i64) (.pair (.int .i64) (.pair (.int .i64) (.pair (.int .i64) (.pair (.int .i64) (.int .i64)))))) v0_3.2.2.2.2.2.1)] ?_
  refine AW.ret ?_
  obtain rfl:=Option.some.inj h
  exact zR [] [] [(2000,24002)]
end Go.Proofs.Ytkocijiclklbfaa
