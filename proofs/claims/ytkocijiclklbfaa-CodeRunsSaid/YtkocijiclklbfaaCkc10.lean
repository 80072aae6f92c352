import Derived.Test.YtkocijiclklbfaaCkp
import Derived.Test.YtkocijiclklbfaaShk
import Derived.Test.YtkocijiclklbfaaAvd
namespace Go.Proofs.Ytkocijiclklbfaa
open Go.RowKit
set_option linter.unusedSimpArgs false
set_option linter.unusedVariables false
set_option linter.constructorNameAsVariable false
set_option maxRecDepth 100000
set_option maxHeartbeats 40000000
theorem hc_linealref08_Play_HasLine_2 (t:Int) (p:List (List (Int×Int×Int×Int))) (p_2:List (List Int)) (p_3:List Int) (p_4:Int) (p_5:Int) (p_6:Int) (p_7:Int) (p_8:List (Int×Int×Bool×Int×Int×Int×Int×Int)) (p_9:ZH) (p_10:List Int) {r:Bool} (h:linealref08_Play_HasLine_2 t p p_2 p_3 p_4 p_5 p_6 p_7 p_8 p_9 p_10=some r):HC Try.prog 31 [(1000,.box 72 [.sl (.sl (.pair (.int .i64) (.pair (.int .i64) (.pair (.int .i64) (.int .i64))))) p,.sl (.sl (.int .i64)) p_2,.sl (.int .i64) p_3,.own 1001,.int .i64 p_4,.int .i64 p_5,.int .i64 p_6,.int .i64 p_7,.own 1002,.own 1003]),(1001,.arr 92 (.pair (.int .i64) (.pair (.int .i64) (.pair .bool (.pair (.int .i64) (.pair (.int .i64) (.pair (.int .i64) (.pair (.int .i64) (.int .i64)))))))) p_8),(1002,.arr 49 (.pair (.int .i64) (.pair (.int .i64) (.pair (.int .i64) (.pair (.int .i64) (.pair (.int .i64) (.int .i64)))))) p_9),(1003,.arr 3 (.int .i64) p_10)] [.bp 1000 0,.int .i64 t] [(1000,.box 72 [.sl (.sl (.pair (.int .i64) (.pair (.int .i64) (.pair (.int .i64) (.int .i64))))) p,.sl (.sl (.int .i64)) p_2,.sl (.int .i64) p_3,.own 1001,.int .i64 p_4,.int .i64 p_5,.int .i64 p_6,.int .i64 p_7,.own 1002,.own 1003]),(1001,.arr 92 (.pair (.int .i64) (.pair (.int .i64) (.pair .bool (.pair (.int .i64) (.pair (.int .i64) (.pair (.int .i64) (.pair (.int .i64) (.int .i64)))))))) p_8),(1002,.arr 49 (.pair (.int .i64) (.pair (.int .i64) (.pair (.int .i64) (.pair (.int .i64) (.pair (.int .i64) (.int .i64)))))) p_9),(1003,.arr 3 (.int .i64) p_10)] (.bool r):=by
 unfold linealref08_Play_HasLine_2 at h
 refine zH Try.func31 [.tmp 4] 32 ?_
 refine zo ?_
 refine zB [(0,.bp 1000 0),(1,.int .i64 t)] [(1000,.box 72 [.sl (.sl (.pair (.int .i64) (.pair (.int .i64) (.pair (.int .i64) (.int .i64))))) p,.sl (.sl (.int .i64)) p_2,.sl (.int .i64) p_3,.own 1001,.int .i64 p_4,.int .i64 p_5,.int .i64 p_6,.int .i64 p_7,.own 1002,.own 1003]),(1001,.arr 92 (.pair (.int .i64) (.pair (.int .i64) (.pair .bool (.pair (.int .i64) (.pair (.int .i64) (.pair (.int .i64) (.pair (.int .i64) (.int .i64)))))))) p_8),(1002,.arr 49 (.pair (.int .i64) (.pair (.int .i64) (.pair (.int .i64) (.pair (.int .i64) (.pair (.int .i64) (.int .i64)))))) p_9),(1003,.arr 3 (.int .i64) p_10)] ?_
 refine AW.seq ?_
 refine AW.draw tab_ok mixed_ok [] [] (by decide) (lex_fast (by kernel_rfl)) ?_
 as_aux_lemma =>
  obtain ⟨c2,h⟩:=ck_some.1 h
  obtain ⟨c3,h⟩:=ck_some.1 h
  refine adops_cut 6 (fun K' hK1=>?_)
  try dsimp only [List.drop_succ_cons,List.drop_zero,List.take_succ_cons,List.take_zero]
  simp only [go_sem]
  repeat with_reducible refine zN ?_
  refine hK1 _ ?_
  as_aux_lemma =>
   refine adops_cut 3 (fun K' hK4=>?_)
   try dsimp only [List.drop_succ_cons,List.drop_zero,List.take_succ_cons,List.take_zero]
   simp only [go_sem]
   repeat with_reducible refine zN ?_
   refine hK4 _ ?_
   as_aux_lemma =>
    rcases zI h with ⟨hb5,h⟩|⟨hb5,h⟩
    ·simp only [hb5]
     as_aux_lemma =>
      refine adops_cut 4 (fun K' hK6=>?_)
      try dsimp only [List.drop_succ_cons,List.drop_zero,List.take_succ_cons,List.take_zero]
      simp only [go_sem,hb5]
      repeat with_reducible refine zN ?_
      refine hK6 _ ?_
      as_aux_lemma =>
       refine adops_cut 4 (fun K' hK7=>?_)
       try dsimp only [List.drop_succ_cons,List.drop_zero,List.take_succ_cons,List.take_zero]
       simp only [go_sem,hb5]
       repeat with_reducible refine zN ?_
       refine hK7 _ ?_
       as_aux_lemma =>
        refine adops_cut 4 (fun K' hK8=>?_)
        try dsimp only [List.drop_succ_cons,List.drop_zero,List.take_succ_cons,List.take_zero]
        simp only [go_sem,hb5]
        repeat with_reducible refine zN ?_
        refine hK8 _ ?_
        as_aux_lemma =>
         refine adops_cut 4 (fun K' hK9=>?_)
         try dsimp only [List.drop_succ_cons,List.drop_zero,List.take_succ_cons,List.take_zero]
         simp only [go_sem,hb5]
         repeat with_reducible refine zN ?_
         refine hK9 _ ?_
         as_aux_lemma =>
          refine adops_cut 3 (fun K' hK10=>?_)
          try dsimp only [List.drop_succ_cons,List.drop_zero,List.take_succ_cons,List.take_zero]
          simp only [go_sem,hb5]
          repeat with_reducible refine zN ?_
          refine hK10 _ ?_
          refine adops_nil ?_
          refine athen_n ?_
          refine zV [(4,.bool true)] [(1000,.box 72 [.sl (.sl (.pair (.int .i64) (.pair (.int .i64) (.pair (.int .i64) (.int .i64))))) p,.sl (.sl (.int .i64)) p_2,.sl (.int .i64) p_3,.own 1001,.int .i64 p_4,.int .i64 p_5,.int .i64 p_6,.int .i64 p_7,.own 1002,.own 1003]),(1001,.arr 92 (.pair (.int .i64) (.pair (.int .i64) (.pair .bool (.pair (.int .i64) (.pair (.int .i64) (.pair (.int .i64) (.pair (.int .i64) (.int .i64)))))))) p_8),(1002,.arr 49 (.pair (.int .i64) (.pair (.int .i64) (.pair (.int .i64) (.pair (.int .i64) (.pair (.int .i64) (.int .i64)))))) p_9),(1003,.arr 3 (.int .i64) p_10)] gt ?_
          as_aux_lemma =>
           refine AW.ret ?_
           obtain rfl:=Option.some.inj h
           exact zR [] [] []
    ·simp only [hb5]
     as_aux_lemma =>
      obtain ⟨c12,h⟩:=ck_some.1 h
      obtain ⟨c13,h⟩:=ck_some.1 h
      refine adops_cut 6 (fun K' hK11=>?_)
      try dsimp only [List.drop_succ_cons,List.drop_zero,List.take_succ_cons,List.take_zero]
      simp only [go_sem,hb5]
      repeat with_reducible refine zN ?_
      refine hK11 _ ?_
      as_aux_lemma =>
       refine adops_cut 6 (fun K' hK14=>?_)
       try dsimp only [List.drop_succ_cons,List.drop_zero,List.take_succ_cons,List.take_zero]
       simp only [go_sem,hb5]
       repeat with_reducible refine zN ?_
       refine hK14 _ ?_
       as_aux_lemma =>
        obtain ⟨c16,h⟩:=ck_some.1 h
        obtain ⟨c17,h⟩:=ck_some.1 h
        refine adops_cut 6 (fun K' hK15=>?_)
        try dsimp only [List.drop_succ_cons,List.drop_zero,List.take_succ_cons,List.take_zero]
        simp only [go_sem,hb5]
        repeat with_reducible refine zN ?_
        refine hK15 _ ?_
        as_aux_lemma =>
         refine adops_cut 1 (fun K' hK18=>?_)
         try dsimp only [List.drop_succ_cons,List.drop_zero,List.take_succ_cons,List.take_zero]
         simp only [go_sem,hb5]
         repeat with_reducible refine zN ?_
         refine hK18 _ ?_
         refine adops_nil ?_
         refine athen_n ?_
         refine zV [(4,.bool (decide ((p_8.getD t.toNat (0,0,false,0,0,0,0,0)).1<((p_2.getD t.toNat []).length:Int))))] [(1000,.box 72 [.sl (.sl (.pair (.int .i64) (.pair (.int .i64) (.pair (.int .i64) (.int .i64))))) p,.sl (.sl (.int .i64)) p_2,.sl (.int .i64) p_3,.own 1001,.int .i64 p_4,.int .i64 p_5,.int .i64 p_6,.int .i64 p_7,.own 1002,.own 1003]),(1001,.arr 92 (.pair (.int .i64) (.pair (.int .i64) (.pair .bool (.pair (.int .i64) (.pair (.int .i64) (.pair (.int .i64) (.pair (.int .i64) (.int .i64)))))))) p_8),(1002,.arr 49 (.pair (.int .i64) (.pair (.int .i64) (.pair (.int .i64) (.pair (.int .i64) (.pair (.int .i64) (.int .i64)))))) p_9),(1003,.arr 3 (.int .i64) p_10)] gt ?_
         as_aux_lemma =>
          refine AW.ret ?_
          obtain rfl:=Option.some.inj h
          exact zR [] [] []
end Go.Proofs.Ytkocijiclklbfaa
