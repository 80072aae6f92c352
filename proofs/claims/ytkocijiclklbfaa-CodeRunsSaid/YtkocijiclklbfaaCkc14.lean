import Derived.Test.YtkocijiclklbfaaCkp
import Derived.Test.YtkocijiclklbfaaShk
import Derived.Test.YtkocijiclklbfaaAvd
import Derived.Test.YtkocijiclklbfaaCkc10
import Derived.Test.YtkocijiclklbfaaCkc12
import Derived.Test.YtkocijiclklbfaaCkc13
import Derived.Test.YtkocijiclklbfaaCkc6
namespace Go.Proofs.Ytkocijiclklbfaa
open Go.RowKit
set_option linter.unusedSimpArgs false
set_option linter.unusedVariables false
set_option linter.constructorNameAsVariable false
set_option maxRecDepth 100000
set_option maxHeartbeats 40000000
theorem hc_code_Left (c:List (List (Int×Int×Int×Int))) (use:List (List Int)) (schedule:List Int) {r:(List Int)×Int} (h:code_Left c use schedule=some r):HC Try.prog 15 [] [.sl (.sl (.pair (.int .i64) (.pair (.int .i64) (.pair (.int .i64) (.int .i64))))) c,.sl (.sl (.int .i64)) use,.sl (.int .i64) schedule] [(2000,.arr 3 (.int .i64) r.1)] (.tup [.own 2000,.int .i64 r.2]):=by
 unfold code_Left at h
 refine zH Try.func15 [.tmp 6,.tmp 7] 22 ?_
 refine zo ?_
 refine zB [(0,.sl (.sl (.pair (.int .i64) (.pair (.int .i64) (.pair (.int .i64) (.int .i64))))) c),(1,.sl (.sl (.int .i64)) use),(2,.sl (.int .i64) schedule)] [] ?_
 refine zo ?_
 refine zS 3 [(11,.sl (.sl (.pair (.int .i64) (.pair (.int .i64) (.pair (.int .i64) (.int .i64))))) c),(12,.sl (.sl (.int .i64)) use),(13,.sl (.int .i64) schedule)] [] ?_
 obtain ⟨v0,hv1,h⟩:=Option.bind_eq_some_iff.1 h
 refine zC [] [] (hc_code_played c use schedule hv1) [(14,.tup [.agg (.sl (.sl (.pair (.int .i64) (.pair (.int .i64) (.pair (.int .i64) (.int .i64))))) v0.1::(.sl (.sl (.int .i64)) v0.2.1::(.own 24000::(cellsX T55 v0.2.2.2.1++(.int .i64 v0.2.2.2.2.1::(.int .i64 v0.2.2.2.2.2.1::(.int .i64 v0.2.2.2.2.2.2.1::(cellsX T60 v0.2.2.2.2.2.2.2.1++(cellsX T61 v0.2.2.2.2.2.2.2.2.1++(.int .i64 v0.2.2.2.2.2.2.2.2.2.1::[])))))))))),.int .i64 v0.2.2.2.2.2.2.2.2.2.2])] [(24000,.arr 3 (.int .i64) v0.2.2.1)] ?_
 refine AO.weaken (s':=⟨fr [(14,.tup [.agg (.sl (.sl (.pair (.int .i64) (.pair (.int .i64) (.pair (.int .i64) (.int .i64))))) v0.1::(.sl (.sl (.int .i64)) v0.2.1::(.sl (.int .i64) v0.2.2.1::(cellsX T55 v0.2.2.2.1++(.int .i64 v0.2.2.2.2.1::(.int .i64 v0.2.2.2.2.2.1::(.int .i64 v0.2.2.2.2.2.2.1::(cellsX T60 v0.2.2.2.2.2.2.2.1++(cellsX T61 v0.2.2.2.2.2.2.2.2.1++(.int .i64 v0.2.2.2.2.2.2.2.2.2.1::[])))))))))),.int .i64 v0.2.2.2.2.2.2.2.2.2.2])],hpGet [],gt⟩) (zL [24000] [] []) ?_
 refine zS 5 [(8,.bp 8 0),(16,.int .i64 v0.2.2.2.2.2.2.2.2.2.2)] [(8,.box 63 (.sl (.sl (.pair (.int .i64) (.pair (.int .i64) (.pair (.int .i64) (.int .i64))))) v0.1::(.sl (.sl (.int .i64)) v0.2.1::(.sl (.int .i64) v0.2.2.1::(cellsX T55 v0.2.2.2.1++(.int .i64 v0.2.2.2.2.1::(.int .i64 v0.2.2.2.2.2.1::(.int .i64 v0.2.2.2.2.2.2.1::(cellsX T60 v0.2.2.2.2.2.2.2.1++(cellsX T61 v0.2.2.2.2.2.2.2.2.1++(.int .i64 v0.2.2.2.2.2.2.2.2.2.1::[])))))))))))] ?_
 refine zB [(8,.bp 8 0),(9,.int .i64 v0.2.2.2.2.2.2.2.2.2.2)] [(8,.box 63 (.sl (.sl (.pair (.int .i64) (.pair (.int .i64) (.pair (.int .i64) (.int .i64))))) v0.1::(.sl (.sl (.int .i64)) v0.2.1::(.sl (.int .i64) v0.2.2.1::(cellsX T55 v0.2.2.2.1++(.int .i64 v0.2.2.2.2.1::(.int .i64 v0.2.2.2.2.2.1::(.int .i64 v0.2.2.2.2.2.2.1::(cellsX T60 v0.2.2.2.2.2.2.2.1++(cellsX T61 v0.2.2.2.2.2.2.2.2.1++(.int .i64 v0.2.2.2.2.2.2.2.2.2.1::[])))))))))))] ?_
 refine AW.seq ?_
 refine zo ?_
 refine zB [(8,.bp 8 0),(9,.int .i64 v0.2.2.2.2.2.2.2.2.2.2),(18,.bool (!(decide (v0.2.2.2.2.2.2.2.2.2.2=0))))] [(8,.box 63 (.sl (.sl (.pair (.int .i64) (.pair (.int .i64) (.pair (.int .i64) (.int .i64))))) v0.1::(.sl (.sl (.int .i64)) v0.2.1::(.sl (.int .i64) v0.2.2.1::(cellsX T55 v0.2.2.2.1++(.int .i64 v0.2.2.2.2.1::(.int .i64 v0.2.2.2.2.2.1::(.int .i64 v0.2.2.2.2.2.2.1::(cellsX T60 v0.2.2.2.2.2.2.2.1++(cellsX T61 v0.2.2.2.2.2.2.2.2.1++(.int .i64 v0.2.2.2.2.2.2.2.2.2.1::[])))))))))))] ?_
 refine zQ h (fun hb2 h=>?_) (fun hb2 h=>?_)
 ·refine zo ?_
  refine zB [(6,.cv (.slice none 0 0)),(7,.int .i64 v0.2.2.2.2.2.2.2.2.2.2)] [] ?_
  refine zr ?_
  obtain rfl:=Option.some.inj h
  exact zR [] [2000] []
 ·refine zk ?_
  refine zo ?_
  refine zS 1 [(20,.agg (.sl (.sl (.pair (.int .i64) (.pair (.int .i64) (.pair (.int .i64) (.int .i64))))) v0.1::(.sl (.sl (.int .i64)) v0.2.1::(.sl (.int .i64) v0.2.2.1::(cellsX T55 v0.2.2.2.1++(.int .i64 v0.2.2.2.2.1::(.int .i64 v0.2.2.2.2.2.1::(.int .i64 v0.2.2.2.2.2.2.1::(cellsX T60 v0.2.2.2.2.2.2.2.1++(cellsX T61 v0.2.2.2.2.2.2.2.2.1++(.int .i64 v0.2.2.2.2.2.2.2.2.2.1::[])))))))))))] [] ?_
  obtain ⟨v0_2,hv3,h⟩:=Option.bind_eq_some_iff.1 h
  refine zC [] [] (hc_code_run_left ((v0.1,v0.2.1),v0.2.2.1,v0.2.2.2.1,(v0.2.2.2.2.1,v0.2.2.2.2.2.1,v0.2.2.2.2.2.2.1),v0.2.2.2.2.2.2.2.1,v0.2.2.2.2.2.2.2.2.1,v0.2.2.2.2.2.2.2.2.2.1) hv3) [(21,.own 31000)] [(31000,.arr 3 (.int .i64) v0_2)] ?_
  refine zB [(6,.own 31000),(7,.int .i64 0)] [(31000,.arr 3 (.int .i64) v0_2)] ?_
  refine AW.ret ?_
  obtain rfl:=Option.some.inj h
  exact zR [] [] [(2000,31000)]
theorem hc_linealref08_Left (c:List (List (Int×Int×Int×Int))) (use:List (List Int)) (schedule:List Int) {r:(List Int)×Int} (h:linealref08_Left c use schedule=some r):HC Try.prog 16 [] [.sl (.sl (.pair (.int .i64) (.pair (.int .i64) (.pair (.int .i64) (.int .i64))))) c,.sl (.sl (.int .i64)) use,.sl (.int .i64) schedule] [(2000,.arr 3 (.int .i64) r.1)] (.tup [.own 2000,.int .i64 r.2]):=by
 unfold linealref08_Left at h
 refine zH Try.func16 [.tmp 6,.tmp 7] 36 ?_
 refine zo ?_
 refine zB [(0,.sl (.sl (.pair (.int .i64) (.pair (.int .i64) (.pair (.int .i64) (.int .i64))))) c),(1,.sl (.sl (.int .i64)) use),(2,.sl (.int .i64) schedule)] [] ?_
 refine zo ?_
 refine zS 3 [(1,.sl (.sl (.int .i64)) use),(13,.sl (.sl (.pair (.int .i64) (.pair (.int .i64) (.pair (.int .i64) (.int .i64))))) c),(14,.sl (.sl (.int .i64)) use),(15,.sl (.int .i64) schedule)] [] ?_
 obtain ⟨v0,hv1,h⟩:=Option.bind_eq_some_iff.1 h
 rcases v0 with v0_2|v0_3
 ·try simp only at h
  refine zC [] [] (hc_linealref08_run_a0 c use schedule hv1) [(1,.sl (.sl (.int .i64)) use),(16,.tup [.cv (.pointer none),.int .i64 v0_2])] [] ?_
  refine zB [(1,.sl (.sl (.int .i64)) use),(8,.cv (.pointer none)),(9,.int .i64 v0_2)] [] ?_
  refine AW.seq ?_
  refine zo ?_
  refine zB [(1,.sl (.sl (.int .i64)) use),(8,.cv (.pointer none)),(9,.int .i64 v0_2),(20,.bool (!(decide (v0_2=0))))] [] ?_
  refine zQ h (fun hb2 h=>?_) (fun hb2 h=>?_)
  ·refine zo ?_
   refine zB [(6,.cv (.slice none 0 0)),(7,.int .i64 v0_2)] [] ?_
   refine zr ?_
   obtain rfl:=Option.some.inj h
   exact zR [] [2000] []
  ·refine zk ?_
   refine zo ?_
   refine zB [(1,.sl (.sl (.int .i64)) use),(8,.cv (.pointer none)),(10,.cv (.slice none 0 0))] [] ?_
   refine AW.have1 (fun _:Unit=>linealref08_Left_k1=some r) (fun _=>⟨fr [(10,.cv (.slice none 0 0))],hpGet [],gt⟩) (fun _ h=>?_) (fun hk_linealref08_Left_k1=>?_)
   ·as_aux_lemma =>
     unfold linealref08_Left_k1 at h
     refine zo ?_
     refine zB [(6,.cv (.slice none 0 0)),(7,.int .i64 0)] [] ?_
     refine AW.ret ?_
     obtain rfl:=Option.some.inj h
     exact zR [] [2000] []
   ·refine AW.seq ?_
    refine zo ?_
    refine zB [(1,.sl (.sl (.int .i64)) use),(8,.cv (.pointer none)),(10,.cv (.slice none 0 0)),(11,.int .i64 0)] [] ?_
    refine AW.block ?_
    obtain ⟨rv7,hw3,ho4⟩:=Option.bind_eq_some_iff.1 h
    refine AW.loopO (linealref08_Left_b1 use) (fun st1=>⟨fr [(1,.sl (.sl (.int .i64)) use),(8,.cv (.pointer none)),(10,.cv (.slice none 0 0)),(11,.int .i64 0)],hpGet [],gt⟩) () hw3 (zL [] [] []) ?_
    as_aux_lemma =>
     intro st1 x6 h hd5
     unfold linealref08_Left_b1 at h
     refine AW.seq ?_
     refine zo ?_
     refine zB [(1,.sl (.sl (.int .i64)) use),(8,.cv (.pointer none)),(10,.cv (.slice none 0 0)),(11,.int .i64 0),(25,.bool (decide (0<(use.length:Int))))] [] ?_
     refine zQ h (fun hb8 h=>?_) (fun hb8 h=>?_)
     ·refine zk ?_
      refine AW.seq ?_
      refine AW.block ?_
      refine zo ?_
      cases h
     ·refine AW.exit ?_
      refine athen_e ?_
      obtain rfl:=Option.some.inj h
      try rw [← hd5 _ rfl] at ho4
      have h:=ho4
      refine athen_e ?_
      refine ablock_s ?_
      refine athen_n ?_
      exact AW.weaken (zL [] [] []) (hk_linealref08_Left_k1 () h)
 ·try simp only at h
  refine zC [] [] (hc_linealref08_run_a1 c use schedule hv1) [(1,.sl (.sl (.int .i64)) use),(16,.tup [.bp 26000 0,.int .i64 0])] [(26000,.box 72 [.sl (.sl (.pair (.int .i64) (.pair (.int .i64) (.pair (.int .i64) (.int .i64))))) c,.sl (.sl (.int .i64)) use,.sl (.int .i64) [],.own 26001,.int .i64 v0_3.2.1,.int .i64 v0_3.2.2.1,.int .i64 v0_3.2.2.2.1,.int .i64 v0_3.2.2.2.2.1,.own 26002,.own 26003]),(26001,.arr 92 (.pair (.int .i64) (.pair (.int .i64) (.pair .bool (.pair (.int .i64) (.pair (.int .i64) (.pair (.int .i64) (.pair (.int .i64) (.int .i64)))))))) v0_3.1),(26002,.arr 49 (.pair (.int .i64) (.pair (.int .i64) (.pair (.int .i64) (.pair (.int .i64) (.pair (.int .i64) (.int .i64)))))) v0_3.2.2.2.2.2.1),(26003,.arr 3 (.int .i64) v0_3.2.2.2.2.2.2)] ?_
  refine zB [(1,.sl (.sl (.int .i64)) use),(8,.bp 26000 0),(9,.int .i64 0)] [(26000,.box 72 [.sl (.sl (.pair (.int .i64) (.pair (.int .i64) (.pair (.int .i64) (.int .i64))))) c,.sl (.sl (.int .i64)) use,.sl (.int .i64) [],.own 26001,.int .i64 v0_3.2.1,.int .i64 v0_3.2.2.1,.int .i64 v0_3.2.2.2.1,.int .i64 v0_3.2.2.2.2.1,.own 26002,.own 26003]),(26001,.arr 92 (.pair (.int .i64) (.pair (.int .i64) (.pair .bool (.pair (.int .i64) (.pair (.int .i64) (.pair (.int .i64) (.pair (.int .i64) (.int .i64)))))))) v0_3.1),(26002,.arr 49 (.pair (.int .i64) (.pair (.int .i64) (.pair (.int .i64) (.pair (.int .i64) (.pair (.int .i64) (.int .i64)))))) v0_3.2.2.2.2.2.1),(26003,.arr 3 (.int .i64) v0_3.2.2.2.2.2.2)] ?_
  refine AW.seq ?_
  refine zo ?_
  have hx9:(!decide ((0:Int)=0))=false:=rfl
  refine zB [(1,.sl (.sl (.int .i64)) use),(8,.bp 26000 0),(9,.int .i64 0),(20,.bool false)] [(26000,.box 72 [.sl (.sl (.pair (.int .i64) (.pair (.int .i64) (.pair (.int .i64) (.int .i64))))) c,.sl (.sl (.int .i64)) use,.sl (.int .i64) [],.own 26001,.int .i64 v0_3.2.1,.int .i64 v0_3.2.2.1,.int .i64 v0_3.2.2.2.1,.int .i64 v0_3.2.2.2.2.1,.own 26002,.own 26003]),(26001,.arr 92 (.pair (.int .i64) (.pair (.int .i64) (.pair .bool (.pair (.int .i64) (.pair (.int .i64) (.pair (.int .i64) (.pair (.int .i64) (.int .i64)))))))) v0_3.1),(26002,.arr 49 (.pair (.int .i64) (.pair (.int .i64) (.pair (.int .i64) (.pair (.int .i64) (.pair (.int .i64) (.int .i64)))))) v0_3.2.2.2.2.2.1),(26003,.arr 3 (.int .i64) v0_3.2.2.2.2.2.2)] ?_
  refine AW.cond (b:=false) rfl (fun hb10=>by cases hb10) (fun _=>?_)
  refine zk ?_
  refine zo ?_
  refine zB [(1,.sl (.sl (.int .i64)) use),(8,.bp 26000 0),(10,.cv (.slice none 0 0))] [(26000,.box 72 [.sl (.sl (.pair (.int .i64) (.pair (.int .i64) (.pair (.int .i64) (.int .i64))))) c,.sl (.sl (.int .i64)) use,.sl (.int .i64) [],.own 26001,.int .i64 v0_3.2.1,.int .i64 v0_3.2.2.1,.int .i64 v0_3.2.2.2.1,.int .i64 v0_3.2.2.2.2.1,.own 26002,.own 26003]),(26001,.arr 92 (.pair (.int .i64) (.pair (.int .i64) (.pair .bool (.pair (.int .i64) (.pair (.int .i64) (.pair (.int .i64) (.pair (.int .i64) (.int .i64)))))))) v0_3.1),(26002,.arr 49 (.pair (.int .i64) (.pair (.int .i64) (.pair (.int .i64) (.pair (.int .i64) (.pair (.int .i64) (.int .i64)))))) v0_3.2.2.2.2.2.1),(26003,.arr 3 (.int .i64) v0_3.2.2.2.2.2.2)] ?_
  refine AW.have1 (fun b2:(List Int)=>linealref08_Left_k2 b2=some r) (fun b2=>⟨fr [(10,.own 34)],hpGet [(34,.arr 3 (.int .i64) b2)],gt⟩) (fun b2 h=>?_) (fun hk_linealref08_Left_k2=>?_)
  ·as_aux_lemma =>
    unfold linealref08_Left_k2 at h
    refine zo ?_
    refine zB [(6,.own 34),(7,.int .i64 0)] [(34,.arr 3 (.int .i64) b2)] ?_
    refine AW.ret ?_
    obtain rfl:=Option.some.inj h
    exact zR [] [] [(2000,34)]
  ·refine AW.seq ?_
   refine zo ?_
   refine zB [(1,.sl (.sl (.int .i64)) use),(8,.bp 26000 0),(10,.cv (.slice none 0 0)),(11,.int .i64 0)] [(26000,.box 72 [.sl (.sl (.pair (.int .i64) (.pair (.int .i64) (.pair (.int .i64) (.int .i64))))) c,.sl (.sl (.int .i64)) use,.sl (.int .i64) [],.own 26001,.int .i64 v0_3.2.1,.int .i64 v0_3.2.2.1,.int .i64 v0_3.2.2.2.1,.int .i64 v0_3.2.2.2.2.1,.own 26002,.own 26003]),(26001,.arr 92 (.pair (.int .i64) (.pair (.int .i64) (.pair .bool (.pair (.int .i64) (.pair (.int .i64) (.pair (.int .i64) (.pair (.int .i64) (.int .i64)))))))) v0_3.1),(26002,.arr 49 (.pair (.int .i64) (.pair (.int .i64) (.pair (.int .i64) (.pair (.int .i64) (.pair (.int .i64) (.int .i64)))))) v0_3.2.2.2.2.2.1),(26003,.arr 3 (.int .i64) v0_3.2.2.2.2.2.2)] ?_
   refine AW.block ?_
   obtain ⟨rv15,hw11,ho12⟩:=Option.bind_eq_some_iff.1 h
   refine AW.loopO (linealref08_Left_b2 c use v0_3) (fun st2=>⟨fr [(1,.sl (.sl (.int .i64)) use),(8,.bp 26000 0),(10,.own 34),(11,.int .i64 st2.2)],hpGet [(34,.arr 3 (.int .i64) st2.1),(26000,.box 72 [.sl (.sl (.pair (.int .i64) (.pair (.int .i64) (.pair (.int .i64) (.int .i64))))) c,.sl (.sl (.int .i64)) use,.sl (.int .i64) [],.own 26001,.int .i64 v0_3.2.1,.int .i64 v0_3.2.2.1,.int .i64 v0_3.2.2.2.1,.int .i64 v0_3.2.2.2.2.1,.own 26002,.own 26003]),(26001,.arr 92 (.pair (.int .i64) (.pair (.int .i64) (.pair .bool (.pair (.int .i64) (.pair (.int .i64) (.pair (.int .i64) (.pair (.int .i64) (.int .i64)))))))) v0_3.1),(26002,.arr 49 (.pair (.int .i64) (.pair (.int .i64) (.pair (.int .i64) (.pair (.int .i64) (.pair (.int .i64) (.int .i64)))))) v0_3.2.2.2.2.2.1),(26003,.arr 3 (.int .i64) v0_3.2.2.2.2.2.2)],gt⟩) ([],0) hw11 (zL [] [34] []) ?_
   as_aux_lemma =>
    intro st2 x14 h hd13
    unfold linealref08_Left_b2 at h
    refine AW.seq ?_
    refine zo ?_
    refine zB [(1,.sl (.sl (.int .i64)) use),(8,.bp 26000 0),(10,.own 34),(11,.int .i64 st2.2),(25,.bool (decide (st2.2<(use.length:Int))))] [(34,.arr 3 (.int .i64) st2.1),(26000,.box 72 [.sl (.sl (.pair (.int .i64) (.pair (.int .i64) (.pair (.int .i64) (.int .i64))))) c,.sl (.sl (.int .i64)) use,.sl (.int .i64) [],.own 26001,.int .i64 v0_3.2.1,.int .i64 v0_3.2.2.1,.int .i64 v0_3.2.2.2.1,.int .i64 v0_3.2.2.2.2.1,.own 26002,.own 26003]),(26001,.arr 92 (.pair (.int .i64) (.pair (.int .i64) (.pair .bool (.pair (.int .i64) (.pair (.int .i64) (.pair (.int .i64) (.pair (.int .i64) (.int .i64)))))))) v0_3.1),(26002,.arr 49 (.pair (.int .i64) (.pair (.int .i64) (.pair (.int .i64) (.pair (.int .i64) (.pair (.int .i64) (.int .i64)))))) v0_3.2.2.2.2.2.1),(26003,.arr 3 (.int .i64) v0_3.2.2.2.2.2.2)] ?_
    refine zQ h (fun hb16 h=>?_) (fun hb16 h=>?_)
    ·refine zk ?_
     refine AW.seq ?_
     refine AW.block ?_
     refine zo ?_
     refine zS 2 [(1,.sl (.sl (.int .i64)) use),(8,.bp 26000 0),(10,.own 34),(11,.int .i64 st2.2),(28,.bp 26000 0),(29,.int .i64 st2.2)] [(34,.arr 3 (.int .i64) st2.1),(26000,.box 72 [.sl (.sl (.pair (.int .i64) (.pair (.int .i64) (.pair (.int .i64) (.int .i64))))) c,.sl (.sl (.int .i64)) use,.sl (.int .i64) [],.own 26001,.int .i64 v0_3.2.1,.int .i64 v0_3.2.2.1,.int .i64 v0_3.2.2.2.1,.int .i64 v0_3.2.2.2.2.1,.own 26002,.own 26003]),(26001,.arr 92 (.pair (.int .i64) (.pair (.int .i64) (.pair .bool (.pair (.int .i64) (.pair (.int .i64) (.pair (.int .i64) (.pair (.int .i64) (.int .i64)))))))) v0_3.1),(26002,.arr 49 (.pair (.int .i64) (.pair (.int .i64) (.pair (.int .i64) (.pair (.int .i64) (.pair (.int .i64) (.int .i64)))))) v0_3.2.2.2.2.2.1),(26003,.arr 3 (.int .i64) v0_3.2.2.2.2.2.2)] ?_
     obtain ⟨v0_4,hv17,h⟩:=Option.bind_eq_some_iff.1 h
     refine zC [] [(1000,26000),(1001,26001),(1002,26002),(1003,26003)] (hc_linealref08_Play_HasLine_2 st2.2 c use [] v0_3.2.1 v0_3.2.2.1 v0_3.2.2.2.1 v0_3.2.2.2.2.1 v0_3.1 v0_3.2.2.2.2.2.1 v0_3.2.2.2.2.2.2 hv17) [(1,.sl (.sl (.int .i64)) use),(8,.bp 26000 0),(10,.own 34),(11,.int .i64 st2.2),(30,.bool v0_4)] [(34,.arr 3 (.int .i64) st2.1),(26000,.box 72 [.sl (.sl (.pair (.int .i64) (.pair (.int .i64) (.pair (.int .i64) (.int .i64))))) c,.sl (.sl (.int .i64)) use,.sl (.int .i64) [],.own 26001,.int .i64 v0_3.2.1,.int .i64 v0_3.2.2.1,.int .i64 v0_3.2.2.2.1,.int .i64 v0_3.2.2.2.2.1,.own 26002,.own 26003]),(26001,.arr 92 (.pair (.int .i64) (.pair (.int .i64) (.pair .bool (.pair (.int .i64) (.pair (.int .i64) (.pair (.int .i64) (.pair (.int .i64) (.int .i64)))))))) v0_3.1),(26002,.arr 49 (.pair (.int .i64) (.pair (.int .i64) (.pair (.int .i64) (.pair (.int .i64) (.pair (.int .i64) (.int .i64)))))) v0_3.2.2.2.2.2.1),(26003,.arr 3 (.int .i64) v0_3.2.2.2.2.2.2)] ?_
     refine zB [(1,.sl (.sl (.int .i64)) use),(8,.bp 26000 0),(10,.own 34),(11,.int .i64 st2.2),(30,.bool v0_4)] [(34,.arr 3 (.int .i64) st2.1),(26000,.box 72 [.sl (.sl (.pair (.int .i64) (.pair (.int .i64) (.pair (.int .i64) (.int .i64))))) c,.sl (.sl (.int .i64)) use,.sl (.int .i64) [],.own 26001,.int .i64 v0_3.2.1,.int .i64 v0_3.2.2.1,.int .i64 v0_3.2.2.2.1,.int .i64 v0_3.2.2.2.2.1,.own 26002,.own 26003]),(26001,.arr 92 (.pair (.int .i64) (.pair (.int .i64) (.pair .bool (.pair (.int .i64) (.pair (.int .i64) (.pair (.int .i64) (.pair (.int .i64) (.int .i64)))))))) v0_3.1),(26002,.arr 49 (.pair (.int .i64) (.pair (.int .i64) (.pair (.int .i64) (.pair (.int .i64) (.pair (.int .i64) (.int .i64)))))) v0_3.2.2.2.2.2.1),(26003,.arr 3 (.int .i64) v0_3.2.2.2.2.2.2)] ?_
     refine zQ h (fun hb18 h=>?_) (fun hb18 h=>?_)
     ·refine AW.ops ?_
      obtain ⟨c19,h⟩:=ck_some.1 h
      refine zA [(1,.sl (.sl (.int .i64)) use),(8,.bp 26000 0),(10,.own 34),(11,.int .i64 st2.2)] [(34,.arr 3 (.int .i64) (st2.1++[st2.2])),(26000,.box 72 [.sl (.sl (.pair (.int .i64) (.pair (.int .i64) (.pair (.int .i64) (.int .i64))))) c,.sl (.sl (.int .i64)) use,.sl (.int .i64) [],.own 26001,.int .i64 v0_3.2.1,.int .i64 v0_3.2.2.1,.int .i64 v0_3.2.2.2.1,.int .i64 v0_3.2.2.2.2.1,.own 26002,.own 26003]),(26001,.arr 92 (.pair (.int .i64) (.pair (.int .i64) (.pair .bool (.pair (.int .i64) (.pair (.int .i64) (.pair (.int .i64) (.pair (.int .i64) (.int .i64)))))))) v0_3.1),(26002,.arr 49 (.pair (.int .i64) (.pair (.int .i64) (.pair (.int .i64) (.pair (.int .i64) (.pair (.int .i64) (.int .i64)))))) v0_3.2.2.2.2.2.1),(26003,.arr 3 (.int .i64) v0_3.2.2.2.2.2.2)] ?_
      refine ablock_n ?_
      refine athen_n ?_
      refine AW.ops ?_
      obtain ⟨c20,h⟩:=ck_some.1 h
      refine zA [(1,.sl (.sl (.int .i64)) use),(8,.bp 26000 0),(10,.own 34),(11,.int .i64 (st2.2+1))] [(34,.arr 3 (.int .i64) (st2.1++[st2.2])),(26000,.box 72 [.sl (.sl (.pair (.int .i64) (.pair (.int .i64) (.pair (.int .i64) (.int .i64))))) c,.sl (.sl (.int .i64)) use,.sl (.int .i64) [],.own 26001,.int .i64 v0_3.2.1,.int .i64 v0_3.2.2.1,.int .i64 v0_3.2.2.2.1,.int .i64 v0_3.2.2.2.2.1,.own 26002,.own 26003]),(26001,.arr 92 (.pair (.int .i64) (.pair (.int .i64) (.pair .bool (.pair (.int .i64) (.pair (.int .i64) (.pair (.int .i64) (.pair (.int .i64) (.int .i64)))))))) v0_3.1),(26002,.arr 49 (.pair (.int .i64) (.pair (.int .i64) (.pair (.int .i64) (.pair (.int .i64) (.pair (.int .i64) (.int .i64)))))) v0_3.2.2.2.2.2.1),(26003,.arr 3 (.int .i64) v0_3.2.2.2.2.2.2)] ?_
      obtain rfl:=Option.some.inj h
      exact ⟨_,rfl,zL [] [] []⟩
     ·refine zm ?_
      refine athen_n ?_
      refine AW.ops ?_
      obtain ⟨c21,h⟩:=ck_some.1 h
      refine zA [(1,.sl (.sl (.int .i64)) use),(8,.bp 26000 0),(10,.own 34),(11,.int .i64 (st2.2+1))] [(34,.arr 3 (.int .i64) st2.1),(26000,.box 72 [.sl (.sl (.pair (.int .i64) (.pair (.int .i64) (.pair (.int .i64) (.int .i64))))) c,.sl (.sl (.int .i64)) use,.sl (.int .i64) [],.own 26001,.int .i64 v0_3.2.1,.int .i64 v0_3.2.2.1,.int .i64 v0_3.2.2.2.1,.int .i64 v0_3.2.2.2.2.1,.own 26002,.own 26003]),(26001,.arr 92 (.pair (.int .i64) (.pair (.int .i64) (.pair .bool (.pair (.int .i64) (.pair (.int .i64) (.pair (.int .i64) (.pair (.int .i64) (.int .i64)))))))) v0_3.1),(26002,.arr 49 (.pair (.int .i64) (.pair (.int .i64) (.pair (.int .i64) (.pair (.int .i64) (.pair (.int .i64) (.int .i64)))))) v0_3.2.2.2.2.2.1),(26003,.arr 3 (.int .i64) v0_3.2.2.2.2.2.2)] ?_
      obtain rfl:=Option.some.inj h
      exact ⟨_,rfl,zL [] [] []⟩
    ·refine AW.exit ?_
     refine athen_e ?_
     obtain rfl:=Option.some.inj h
     rw [← hd13 _ rfl] at ho12
     have h:=ho12
     refine athen_e ?_
     refine ablock_s ?_
     refine athen_n ?_
     exact AW.weaken (zL [] [] []) (hk_linealref08_Left_k2 _ h)
theorem hc_linealref08_SameInts (a:List Int) (b:List Int) {r:Bool} (h:linealref08_SameInts a b=some r):HC Try.prog 17 [] [.sl (.int .i64) a,.sl (.int .i64) b] [] (.bool r):=by
 unfold linealref08_SameInts at h
 refine zH Try.func17 [.tmp 4] 26 ?_
 refine zo ?_
 refine zB [(0,.sl (.int .i64) a),(1,.sl (.int .i64) b)] [] ?_
 refine AW.seq ?_
 refine zo ?_
 refine zB [(0,.sl (.int .i64) a),(1,.sl (.int .i64) b),(10,.bool (!(decide ((a.length:Int)=(b.length:Int)))))] [] ?_
 refine zQ h (fun hb1 h=>?_) (fun hb1 h=>?_)
 ·refine zo ?_
  refine zB [(4,.bool false)] [] ?_
  refine zr ?_
  obtain rfl:=Option.some.inj h
  exact zR [] [] []
 ·refine zk ?_
  refine AW.have1 (fun _:Unit=>linealref08_SameInts_k1=some r) (fun _=>⟨fr [],hpGet [],gt⟩) (fun _ h=>?_) (fun hk_linealref08_SameInts_k1=>?_)
  ·as_aux_lemma =>
    unfold linealref08_SameInts_k1 at h
    refine zo ?_
    refine zB [(4,.bool true)] [] ?_
    refine AW.ret ?_
    obtain rfl:=Option.some.inj h
    exact zR [] [] []
  ·refine AW.seq ?_
   refine zo ?_
   refine zB [(0,.sl (.int .i64) a),(1,.sl (.int .i64) b),(5,.int .i64 0)] [] ?_
   refine AW.block ?_
   obtain ⟨rv6,hw2,ho3⟩:=Option.bind_eq_some_iff.1 h
   refine AW.loopO (linealref08_SameInts_b1 a b) (fun st1=>⟨fr [(0,.sl (.int .i64) a),(1,.sl (.int .i64) b),(5,.int .i64 st1)],hpGet [],gt⟩) 0 hw2 (zL [] [] []) ?_
   as_aux_lemma =>
    intro st1 x5 h hd4
    unfold linealref08_SameInts_b1 at h
    refine AW.seq ?_
    refine zo ?_
    refine zB [(0,.sl (.int .i64) a),(1,.sl (.int .i64) b),(5,.int .i64 st1),(14,.bool (decide (st1<(a.length:Int))))] [] ?_
    refine zQ h (fun hb7 h=>?_) (fun hb7 h=>?_)
    ·refine zk ?_
     refine AW.seq ?_
     refine AW.block ?_
     refine AW.seq ?_
     refine AW.draw tab_ok mixed_ok [] [] (by decide) (lex_fast (by kernel_rfl)) ?_
     as_aux_lemma =>
      obtain ⟨c9,h⟩:=ck_some.1 h
      obtain ⟨c10,h⟩:=ck_some.1 h
      refine adops_cut 6 (fun K' hK8=>?_)
      try dsimp only [List.drop_succ_cons,List.drop_zero,List.take_succ_cons,List.take_zero]
      simp only [go_sem,hb1,hb7]
      repeat with_reducible refine zN ?_
      refine hK8 _ ?_
      as_aux_lemma =>
       obtain ⟨c12,h⟩:=ck_some.1 h
       obtain ⟨c13,h⟩:=ck_some.1 h
       refine adops_cut 3 (fun K' hK11=>?_)
       try dsimp only [List.drop_succ_cons,List.drop_zero,List.take_succ_cons,List.take_zero]
       simp only [go_sem,hb1,hb7]
       repeat with_reducible refine zN ?_
       refine hK11 _ ?_
       refine adops_nil ?_
       refine athen_n ?_
       refine zV [(0,.sl (.int .i64) a),(1,.sl (.int .i64) b),(5,.int .i64 st1),(25,.bool (!(decide ((a.getD st1.toNat 0)=(b.getD st1.toNat 0)))))] [] gt ?_
       as_aux_lemma =>
        refine zQ h (fun hb14 h=>?_) (fun hb14 h=>?_)
        ·refine zo ?_
         refine zB [(4,.bool false)] [] ?_
         refine AW.ret ?_
         refine ablock_r ?_
         refine athen_r ?_
         obtain rfl:=Option.some.inj h
         try rw [← hd4 _ rfl] at ho3
         have h:=ho3
         try simp only at h
         refine athen_r ?_
         refine ablock_r ?_
         refine athen_r ?_
         obtain rfl:=Option.some.inj h
         exact zR [] [] []
        ·refine zm ?_
         refine athen_n ?_
         refine AW.ops ?_
         obtain ⟨c15,h⟩:=ck_some.1 h
         refine zA [(0,.sl (.int .i64) a),(1,.sl (.int .i64) b),(5,.int .i64 (st1+1))] [] ?_
         obtain rfl:=Option.some.inj h
         exact ⟨_,rfl,zL [] [] []⟩
    ·refine AW.exit ?_
     refine athen_e ?_
     obtain rfl:=Option.some.inj h
     try rw [← hd4 _ rfl] at ho3
     have h:=ho3
     try simp only at h
     refine athen_e ?_
     refine ablock_s ?_
     refine athen_n ?_
     exact AW.weaken (zL [] [] []) (hk_linealref08_SameInts_k1 () h)
end Go.Proofs.Ytkocijiclklbfaa
