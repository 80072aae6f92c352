import Derived.Test.YtkocijiclklbfaaCkp
import Derived.Test.YtkocijiclklbfaaShk
import Derived.Test.YtkocijiclklbfaaAvd
import Derived.Test.YtkocijiclklbfaaCkc1
import Derived.Test.YtkocijiclklbfaaCkc12
import Derived.Test.YtkocijiclklbfaaCkc13
import Derived.Test.YtkocijiclklbfaaCkc14
import Derived.Test.YtkocijiclklbfaaCkc2
import Derived.Test.YtkocijiclklbfaaCkc3
import Derived.Test.YtkocijiclklbfaaCkc6
import Derived.Test.YtkocijiclklbfaaCkc7
import Derived.Test.YtkocijiclklbfaaCkc8
namespace Go.Proofs.Ytkocijiclklbfaa
open Go.RowKit
set_option linter.unusedSimpArgs false
set_option linter.unusedVariables false
set_option linter.constructorNameAsVariable false
set_option maxRecDepth 100000
set_option maxHeartbeats 40000000
theorem hc_lineallaw08_CodeRuns (x0:(Int×Int×(List (List Int))×(List (List Int)))×(List (List (Int×Int×Int×Int)))×(List (List Int))) (schedule:List Int) {r:Bool} (h:lineallaw08_CodeRuns x0 schedule=some r):HC Try.prog 3 [] [.agg [.int .i64 x0.1.1,.int .i64 x0.1.2.1,.sl (.sl (.int .i64)) x0.1.2.2.1,.sl (.sl (.int .i64)) x0.1.2.2.2,.sl (.sl (.pair (.int .i64) (.pair (.int .i64) (.pair (.int .i64) (.int .i64))))) x0.2.1,.sl (.sl (.int .i64)) x0.2.2],.sl (.int .i64) schedule] [] (.bool r):=by
 unfold lineallaw08_CodeRuns at h
 refine zH Try.func3 [.tmp 4] 144 ?_
 refine zo ?_
 refine zB [(1,.sl (.int .i64) schedule),(2,.bp 2 0)] [(2,.box 27 [.int .i64 x0.1.1,.int .i64 x0.1.2.1,.sl (.sl (.int .i64)) x0.1.2.2.1,.sl (.sl (.int .i64)) x0.1.2.2.2,.sl (.sl (.pair (.int .i64) (.pair (.int .i64) (.pair (.int .i64) (.int .i64))))) x0.2.1,.sl (.sl (.int .i64)) x0.2.2])] ?_
 refine AW.seq ?_
 refine zo ?_
 refine zS 1 [(1,.sl (.int .i64) schedule),(2,.bp 2 0),(17,.agg [.int .i64 x0.1.1,.int .i64 x0.1.2.1,.sl (.sl (.int .i64)) x0.1.2.2.1,.sl (.sl (.int .i64)) x0.1.2.2.2,.sl (.sl (.pair (.int .i64) (.pair (.int .i64) (.pair (.int .i64) (.int .i64))))) x0.2.1,.sl (.sl (.int .i64)) x0.2.2])] [(2,.box 27 [.int .i64 x0.1.1,.int .i64 x0.1.2.1,.sl (.sl (.int .i64)) x0.1.2.2.1,.sl (.sl (.int .i64)) x0.1.2.2.2,.sl (.sl (.pair (.int .i64) (.pair (.int .i64) (.pair (.int .i64) (.int .i64))))) x0.2.1,.sl (.sl (.int .i64)) x0.2.2])] ?_
 obtain ⟨v0,hv1,h⟩:=Option.bind_eq_some_iff.1 h
 refine zC [] [] (hc_lineallaw08_Large x0 hv1) [(1,.sl (.int .i64) schedule),(2,.bp 2 0),(18,.bool v0)] [(2,.box 27 [.int .i64 x0.1.1,.int .i64 x0.1.2.1,.sl (.sl (.int .i64)) x0.1.2.2.1,.sl (.sl (.int .i64)) x0.1.2.2.2,.sl (.sl (.pair (.int .i64) (.pair (.int .i64) (.pair (.int .i64) (.int .i64))))) x0.2.1,.sl (.sl (.int .i64)) x0.2.2])] ?_
 refine zS 1 [(1,.sl (.int .i64) schedule),(2,.bp 2 0),(19,.bool v0)] [(2,.box 27 [.int .i64 x0.1.1,.int .i64 x0.1.2.1,.sl (.sl (.int .i64)) x0.1.2.2.1,.sl (.sl (.int .i64)) x0.1.2.2.2,.sl (.sl (.pair (.int .i64) (.pair (.int .i64) (.pair (.int .i64) (.int .i64))))) x0.2.1,.sl (.sl (.int .i64)) x0.2.2])] ?_
 rcases zI h with ⟨hb2,h⟩|⟨hb2,h⟩
 ·refine zB [(1,.sl (.int .i64) schedule),(2,.bp 2 0),(23,.bool true)] [(2,.box 27 [.int .i64 x0.1.1,.int .i64 x0.1.2.1,.sl (.sl (.int .i64)) x0.1.2.2.1,.sl (.sl (.int .i64)) x0.1.2.2.2,.sl (.sl (.pair (.int .i64) (.pair (.int .i64) (.pair (.int .i64) (.int .i64))))) x0.2.1,.sl (.sl (.int .i64)) x0.2.2])] ?_
  refine AW.cond (b:=true) rfl (fun _=>?_) (fun hb3=>by cases hb3)
  refine zo ?_
  obtain ⟨v0_2,hv4,h⟩:=Option.bind_eq_some_iff.1 h
  refine zC [] [] (hc_lineallaw08_Sane hv4) [(24,.bool v0_2)] [] ?_
  refine zB [(4,.bool v0_2)] [] ?_
  refine zr ?_
  obtain rfl:=Option.some.inj h
  exact zR [] [] []
 ·refine zB [(1,.sl (.int .i64) schedule),(2,.bp 2 0),(23,.bool (decide (60<(schedule.length:Int))))] [(2,.box 27 [.int .i64 x0.1.1,.int .i64 x0.1.2.1,.sl (.sl (.int .i64)) x0.1.2.2.1,.sl (.sl (.int .i64)) x0.1.2.2.2,.sl (.sl (.pair (.int .i64) (.pair (.int .i64) (.pair (.int .i64) (.int .i64))))) x0.2.1,.sl (.sl (.int .i64)) x0.2.2])] ?_
  refine zQ h (fun hb5 h=>?_) (fun hb5 h=>?_)
  ·refine zo ?_
   obtain ⟨v0_3,hv6,h⟩:=Option.bind_eq_some_iff.1 h
   refine zC [] [] (hc_lineallaw08_Sane hv6) [(24,.bool v0_3)] [] ?_
   refine zB [(4,.bool v0_3)] [] ?_
   refine zr ?_
   obtain rfl:=Option.some.inj h
   exact zR [] [] []
  ·refine zk ?_
   refine zo ?_
   refine zS 4 [(1,.sl (.int .i64) schedule),(2,.bp 2 0),(27,.sl (.sl (.pair (.int .i64) (.pair (.int .i64) (.pair (.int .i64) (.int .i64))))) x0.2.1),(29,.sl (.sl (.int .i64)) x0.2.2)] [(2,.box 27 [.int .i64 x0.1.1,.int .i64 x0.1.2.1,.sl (.sl (.int .i64)) x0.1.2.2.1,.sl (.sl (.int .i64)) x0.1.2.2.2,.sl (.sl (.pair (.int .i64) (.pair (.int .i64) (.pair (.int .i64) (.int .i64))))) x0.2.1,.sl (.sl (.int .i64)) x0.2.2])] ?_
   obtain ⟨v0_4,hv7,h⟩:=Option.bind_eq_some_iff.1 h
   refine zC [] [] (hc_code_ValidUse x0.2.1 x0.2.2 hv7) [(1,.sl (.int .i64) schedule),(2,.bp 2 0),(30,.tup [.bool v0_4.1,.int .i64 v0_4.2])] [(2,.box 27 [.int .i64 x0.1.1,.int .i64 x0.1.2.1,.sl (.sl (.int .i64)) x0.1.2.2.1,.sl (.sl (.int .i64)) x0.1.2.2.2,.sl (.sl (.pair (.int .i64) (.pair (.int .i64) (.pair (.int .i64) (.int .i64))))) x0.2.1,.sl (.sl (.int .i64)) x0.2.2])] ?_
   refine zB [(1,.sl (.int .i64) schedule),(2,.bp 2 0),(5,.bool v0_4.1),(6,.int .i64 v0_4.2)] [(2,.box 27 [.int .i64 x0.1.1,.int .i64 x0.1.2.1,.sl (.sl (.int .i64)) x0.1.2.2.1,.sl (.sl (.int .i64)) x0.1.2.2.2,.sl (.sl (.pair (.int .i64) (.pair (.int .i64) (.pair (.int .i64) (.int .i64))))) x0.2.1,.sl (.sl (.int .i64)) x0.2.2])] ?_
   refine zo ?_
   refine zS 4 [(1,.sl (.int .i64) schedule),(2,.bp 2 0),(5,.bool v0_4.1),(6,.int .i64 v0_4.2),(35,.sl (.sl (.pair (.int .i64) (.pair (.int .i64) (.pair (.int .i64) (.int .i64))))) x0.2.1),(37,.sl (.sl (.int .i64)) x0.2.2)] [(2,.box 27 [.int .i64 x0.1.1,.int .i64 x0.1.2.1,.sl (.sl (.int .i64)) x0.1.2.2.1,.sl (.sl (.int .i64)) x0.1.2.2.2,.sl (.sl (.pair (.int .i64) (.pair (.int .i64) (.pair (.int .i64) (.int .i64))))) x0.2.1,.sl (.sl (.int .i64)) x0.2.2])] ?_
   obtain ⟨v0_5,hv8,h⟩:=Option.bind_eq_some_iff.1 h
   refine zC [] [] (hc_linealref08_ValidUse x0.2.1 x0.2.2 hv8) [(1,.sl (.int .i64) schedule),(2,.bp 2 0),(5,.bool v0_4.1),(6,.int .i64 v0_4.2),(38,.tup [.bool v0_5.1,.int .i64 v0_5.2])] [(2,.box 27 [.int .i64 x0.1.1,.int .i64 x0.1.2.1,.sl (.sl (.int .i64)) x0.1.2.2.1,.sl (.sl (.int .i64)) x0.1.2.2.2,.sl (.sl (.pair (.int .i64) (.pair (.int .i64) (.pair (.int .i64) (.int .i64))))) x0.2.1,.sl (.sl (.int .i64)) x0.2.2])] ?_
   refine zB [(1,.sl (.int .i64) schedule),(2,.bp 2 0),(5,.bool v0_4.1),(6,.int .i64 v0_4.2),(7,.bool v0_5.1),(8,.int .i64 v0_5.2)] [(2,.box 27 [.int .i64 x0.1.1,.int .i64 x0.1.2.1,.sl (.sl (.int .i64)) x0.1.2.2.1,.sl (.sl (.int .i64)) x0.1.2.2.2,.sl (.sl (.pair (.int .i64) (.pair (.int .i64) (.pair (.int .i64) (.int .i64))))) x0.2.1,.sl (.sl (.int .i64)) x0.2.2])] ?_
   refine zo ?_
   refine zS 5 [(1,.sl (.int .i64) schedule),(2,.bp 2 0),(5,.bool v0_4.1),(6,.int .i64 v0_4.2),(7,.bool v0_5.1),(8,.int .i64 v0_5.2),(43,.sl (.sl (.pair (.int .i64) (.pair (.int .i64) (.pair (.int .i64) (.int .i64))))) x0.2.1),(45,.sl (.sl (.int .i64)) x0.2.2),(46,.sl (.int .i64) schedule)] [(2,.box 27 [.int .i64 x0.1.1,.int .i64 x0.1.2.1,.sl (.sl (.int .i64)) x0.1.2.2.1,.sl (.sl (.int .i64)) x0.1.2.2.2,.sl (.sl (.pair (.int .i64) (.pair (.int .i64) (.pair (.int .i64) (.int .i64))))) x0.2.1,.sl (.sl (.int .i64)) x0.2.2])] ?_
   obtain ⟨v0_6,hv9,h⟩:=Option.bind_eq_some_iff.1 h
   refine zC [] [] (hc_code_Run x0.2.1 x0.2.2 schedule hv9) [(1,.sl (.int .i64) schedule),(2,.bp 2 0),(5,.bool v0_4.1),(6,.int .i64 v0_4.2),(7,.bool v0_5.1),(8,.int .i64 v0_5.2),(47,.tup [.own 57000,.int .i64 v0_6.2])] [(2,.box 27 [.int .i64 x0.1.1,.int .i64 x0.1.2.1,.sl (.sl (.int .i64)) x0.1.2.2.1,.sl (.sl (.int .i64)) x0.1.2.2.2,.sl (.sl (.pair (.int .i64) (.pair (.int .i64) (.pair (.int .i64) (.int .i64))))) x0.2.1,.sl (.sl (.int .i64)) x0.2.2]),(57000,.arr 49 (.pair (.int .i64) (.pair (.int .i64) (.pair (.int .i64) (.pair (.int .i64) (.pair (.int .i64) (.int .i64)))))) v0_6.1)] ?_
   refine zB [(1,.sl (.int .i64) schedule),(2,.bp 2 0),(5,.bool v0_4.1),(6,.int .i64 v0_4.2),(7,.bool v0_5.1),(8,.int .i64 v0_5.2),(9,.own 57000),(10,.int .i64 v0_6.2)] [(2,.box 27 [.int .i64 x0.1.1,.int .i64 x0.1.2.1,.sl (.sl (.int .i64)) x0.1.2.2.1,.sl (.sl (.int .i64)) x0.1.2.2.2,.sl (.sl (.pair (.int .i64) (.pair (.int .i64) (.pair (.int .i64) (.int .i64))))) x0.2.1,.sl (.sl (.int .i64)) x0.2.2]),(57000,.arr 49 (.pair (.int .i64) (.pair (.int .i64) (.pair (.int .i64) (.pair (.int .i64) (.pair (.int .i64) (.int .i64)))))) v0_6.1)] ?_
   refine zo ?_
   refine zS 5 [(1,.sl (.int .i64) schedule),(2,.bp 2 0),(5,.bool v0_4.1),(6,.int .i64 v0_4.2),(7,.bool v0_5.1),(8,.int .i64 v0_5.2),(9,.own 57000),(10,.int .i64 v0_6.2),(52,.sl (.sl (.pair (.int .i64) (.pair (.int .i64) (.pair (.int .i64) (.int .i64))))) x0.2.1),(54,.sl (.sl (.int .i64)) x0.2.2),(55,.sl (.int .i64) schedule)] [(2,.box 27 [.int .i64 x0.1.1,.int .i64 x0.1.2.1,.sl (.sl (.int .i64)) x0.1.2.2.1,.sl (.sl (.int .i64)) x0.1.2.2.2,.sl (.sl (.pair (.int .i64) (.pair (.int .i64) (.pair (.int .i64) (.int .i64))))) x0.2.1,.sl (.sl (.int .i64)) x0.2.2]),(57000,.arr 49 (.pair (.int .i64) (.pair (.int .i64) (.pair (.int .i64) (.pair (.int .i64) (.pair (.int .i64) (.int .i64)))))) v0_6.1)] ?_
   obtain ⟨v0_7,hv10,h⟩:=Option.bind_eq_some_iff.1 h
   refine zC [] [] (hc_linealref08_Run x0.2.1 x0.2.2 schedule hv10) [(1,.sl (.int .i64) schedule),(2,.bp 2 0),(5,.bool v0_4.1),(6,.int .i64 v0_4.2),(7,.bool v0_5.1),(8,.int .i64 v0_5.2),(9,.own 57000),(10,.int .i64 v0_6.2),(56,.tup [.own 66000,.int .i64 v0_7.2])] [(2,.box 27 [.int .i64 x0.1.1,.int .i64 x0.1.2.1,.sl (.sl (.int .i64)) x0.1.2.2.1,.sl (.sl (.int .i64)) x0.1.2.2.2,.sl (.sl (.pair (.int .i64) (.pair (.int .i64) (.pair (.int .i64) (.int .i64))))) x0.2.1,.sl (.sl (.int .i64)) x0.2.2]),(57000,.arr 49 (.pair (.int .i64) (.pair (.int .i64) (.pair (.int .i64) (.pair (.int .i64) (.pair (.int .i64) (.int .i64)))))) v0_6.1),(66000,.arr 49 (.pair (.int .i64) (.pair (.int .i64) (.pair (.int .i64) (.pair (.int .i64) (.pair (.int .i64) (.int .i64)))))) v0_7.1)] ?_
   refine zB [(1,.sl (.int .i64) schedule),(2,.bp 2 0),(5,.bool v0_4.1),(6,.int .i64 v0_4.2),(7,.bool v0_5.1),(8,.int .i64 v0_5.2),(9,.own 57000),(10,.int .i64 v0_6.2),(11,.own 66000),(12,.int .i64 v0_7.2)] [(2,.box 27 [.int .i64 x0.1.1,.int .i64 x0.1.2.1,.sl (.sl (.int .i64)) x0.1.2.2.1,.sl (.sl (.int .i64)) x0.1.2.2.2,.sl (.sl (.pair (.int .i64) (.pair (.int .i64) (.pair (.int .i64) (.int .i64))))) x0.2.1,.sl (.sl (.int .i64)) x0.2.2]),(57000,.arr 49 (.pair (.int .i64) (.pair (.int .i64) (.pair (.int .i64) (.pair (.int .i64) (.pair (.int .i64) (.int .i64)))))) v0_6.1),(66000,.arr 49 (.pair (.int .i64) (.pair (.int .i64) (.pair (.int .i64) (.pair (.int .i64) (.pair (.int .i64) (.int .i64)))))) v0_7.1)] ?_
   refine AW.seq ?_
   refine AW.seq ?_
   refine AW.draw tab_ok mixed_ok [] [] (by decide) (lex_fast (by kernel_rfl)) ?_
   as_aux_lemma =>
    refine adops_cut 2 (fun K' hK11=>?_)
    try dsimp only [List.drop_succ_cons,List.drop_zero,List.take_succ_cons,List.take_zero]
    simp only [go_sem,hb2,hb5]
    repeat with_reducible refine zN ?_
    refine hK11 _ ?_
    as_aux_lemma =>
     obtain ⟨v0_8,hv12,h⟩:=Option.bind_eq_some_iff.1 h
     refine adops.call (by first|trivial|rfl) rfl rfl rfl (fun _ h=>h) [] [] (hc_code_Valid x0.2.1 hv12) rfl (by (simp only [go_sem,hb2,hb5])<;>(with_reducible and_intros)<;>first|assumption|rfl|omega|(unfold maxLen; omega)) (by (simp only [go_sem,hb2,hb5])<;>(with_reducible and_intros)<;>first|assumption|rfl|omega|(unfold maxLen; omega)) rfl ?_
     refine adops_cut 2 (fun K' hK13=>?_)
     try dsimp only [List.drop_succ_cons,List.drop_zero,List.take_succ_cons,List.take_zero]
     simp only [go_sem,hb2,hb5]
     repeat with_reducible refine zN ?_
     refine hK13 _ ?_
     as_aux_lemma =>
      obtain ⟨v0_9,hv14,h⟩:=Option.bind_eq_some_iff.1 h
      refine adops.call (by first|trivial|rfl) rfl rfl rfl (fun _ h=>h) [] [] (hc_linealref08_Valid x0.2.1 hv14) rfl (by (simp only [go_sem,hb2,hb5])<;>(with_reducible and_intros)<;>first|assumption|rfl|omega|(unfold maxLen; omega)) (by (simp only [go_sem,hb2,hb5])<;>(with_reducible and_intros)<;>first|assumption|rfl|omega|(unfold maxLen; omega)) rfl ?_
      refine adops_cut 2 (fun K' hK15=>?_)
      try dsimp only [List.drop_succ_cons,List.drop_zero,List.take_succ_cons,List.take_zero]
      simp only [go_sem,hb2,hb5]
      repeat with_reducible refine zN ?_
      refine hK15 _ ?_
      as_aux_lemma =>
       rcases zI h with ⟨hb16,h⟩|⟨hb16,h⟩
       ·simp only [hb16]
        as_aux_lemma =>
         refine adops_cut 6 (fun K' hK17=>?_)
         try dsimp only [List.drop_succ_cons,List.drop_zero,List.take_succ_cons,List.take_zero]
         simp only [go_sem,hb2,hb5,hb16]
         repeat with_reducible refine zN ?_
         refine hK17 _ ?_
         as_aux_lemma =>
          refine adops_cut 6 (fun K' hK18=>?_)
          try dsimp only [List.drop_succ_cons,List.drop_zero,List.take_succ_cons,List.take_zero]
          simp only [go_sem,hb2,hb5,hb16]
          repeat with_reducible refine zN ?_
          refine hK18 _ ?_
          as_aux_lemma =>
           refine adops_cut 6 (fun K' hK19=>?_)
           try dsimp only [List.drop_succ_cons,List.drop_zero,List.take_succ_cons,List.take_zero]
           simp only [go_sem,hb2,hb5,hb16]
           repeat with_reducible refine zN ?_
           refine hK19 _ ?_
           as_aux_lemma =>
            refine adops_cut 2 (fun K' hK20=>?_)
            try dsimp only [List.drop_succ_cons,List.drop_zero,List.take_succ_cons,List.take_zero]
            simp only [go_sem,hb2,hb5,hb16]
            repeat with_reducible refine zN ?_
            refine hK20 _ ?_
            refine adops_nil ?_
            refine athen_n ?_
            refine zV [(1,.sl (.int .i64) schedule),(2,.bp 2 0),(86,.bool true)] [(2,.box 27 [.int .i64 x0.1.1,.int .i64 x0.1.2.1,.sl (.sl (.int .i64)) x0.1.2.2.1,.sl (.sl (.int .i64)) x0.1.2.2.2,.sl (.sl (.pair (.int .i64) (.pair (.int .i64) (.pair (.int .i64) (.int .i64))))) x0.2.1,.sl (.sl (.int .i64)) x0.2.2])] gt ?_
            as_aux_lemma =>
             refine AW.cond (b:=true) rfl (fun _=>?_) (fun hb21=>by cases hb21)
             refine zo ?_
             refine zB [(4,.bool false)] [] ?_
             refine zr ?_
             obtain rfl:=Option.some.inj h
             exact zR [] [] []
       ·simp only [hb16]
        as_aux_lemma =>
         refine adops_cut 5 (fun K' hK22=>?_)
         try dsimp only [List.drop_succ_cons,List.drop_zero,List.take_succ_cons,List.take_zero]
         simp only [go_sem,hb2,hb5,hb16]
         repeat with_reducible refine zN ?_
         refine hK22 _ ?_
         as_aux_lemma =>
          rcases zI h with ⟨hb23,h⟩|⟨hb23,h⟩
          ·simp only [hb23]
           as_aux_lemma =>
            refine adops_cut 6 (fun K' hK24=>?_)
            try dsimp only [List.drop_succ_cons,List.drop_zero,List.take_succ_cons,List.take_zero]
            simp only [go_sem,hb2,hb5,hb16,hb23]
            repeat with_reducible refine zN ?_
            refine hK24 _ ?_
            as_aux_lemma =>
             refine adops_cut 6 (fun K' hK25=>?_)
             try dsimp only [List.drop_succ_cons,List.drop_zero,List.take_succ_cons,List.take_zero]
             simp only [go_sem,hb2,hb5,hb16,hb23]
             repeat with_reducible refine zN ?_
             refine hK25 _ ?_
             as_aux_lemma =>
              refine adops_cut 3 (fun K' hK26=>?_)
              try dsimp only [List.drop_succ_cons,List.drop_zero,List.take_succ_cons,List.take_zero]
              simp only [go_sem,hb2,hb5,hb16,hb23]
              repeat with_reducible refine zN ?_
              refine hK26 _ ?_
              refine adops_nil ?_
              refine athen_n ?_
              refine zV [(1,.sl (.int .i64) schedule),(2,.bp 2 0),(86,.bool true)] [(2,.box 27 [.int .i64 x0.1.1,.int .i64 x0.1.2.1,.sl (.sl (.int .i64)) x0.1.2.2.1,.sl (.sl (.int .i64)) x0.1.2.2.2,.sl (.sl (.pair (.int .i64) (.pair (.int .i64) (.pair (.int .i64) (.int .i64))))) x0.2.1,.sl (.sl (.int .i64)) x0.2.2])] gt ?_
              as_aux_lemma =>
               refine AW.cond (b:=true) rfl (fun _=>?_) (fun hb27=>by cases hb27)
               refine zo ?_
               refine zB [(4,.bool false)] [] ?_
               refine zr ?_
               obtain rfl:=Option.some.inj h
               exact zR [] [] []
          ·simp only [hb23]
           as_aux_lemma =>
            refine adops_cut 5 (fun K' hK28=>?_)
            try dsimp only [List.drop_succ_cons,List.drop_zero,List.take_succ_cons,List.take_zero]
            simp only [go_sem,hb2,hb5,hb16,hb23]
            repeat with_reducible refine zN ?_
            refine hK28 _ ?_
            as_aux_lemma =>
             rcases zI h with ⟨hb29,h⟩|⟨hb29,h⟩
             ·simp only [hb29]
              as_aux_lemma =>
               refine adops_cut 4 (fun K' hK30=>?_)
               try dsimp only [List.drop_succ_cons,List.drop_zero,List.take_succ_cons,List.take_zero]
               simp only [go_sem,hb2,hb5,hb16,hb23,hb29]
               repeat with_reducible refine zN ?_
               refine hK30 _ ?_
               as_aux_lemma =>
                refine adops_cut 6 (fun K' hK31=>?_)
                try dsimp only [List.drop_succ_cons,List.drop_zero,List.take_succ_cons,List.take_zero]
                simp only [go_sem,hb2,hb5,hb16,hb23,hb29]
                repeat with_reducible refine zN ?_
                refine hK31 _ ?_
                refine adops_nil ?_
                refine athen_n ?_
                refine zV [(1,.sl (.int .i64) schedule),(2,.bp 2 0),(86,.bool true)] [(2,.box 27 [.int .i64 x0.1.1,.int .i64 x0.1.2.1,.sl (.sl (.int .i64)) x0.1.2.2.1,.sl (.sl (.int .i64)) x0.1.2.2.2,.sl (.sl (.pair (.int .i64) (.pair (.int .i64) (.pair (.int .i64) (.int .i64))))) x0.2.1,.sl (.sl (.int .i64)) x0.2.2])] gt ?_
                as_aux_lemma =>
                 refine AW.cond (b:=true) rfl (fun _=>?_) (fun hb32=>by cases hb32)
                 refine zo ?_
                 refine zB [(4,.bool false)] [] ?_
                 refine zr ?_
                 obtain rfl:=Option.some.inj h
                 exact zR [] [] []
             ·simp only [hb29]
              as_aux_lemma =>
               refine adops_cut 2 (fun K' hK33=>?_)
               try dsimp only [List.drop_succ_cons,List.drop_zero,List.take_succ_cons,List.take_zero]
               simp only [go_sem,hb2,hb5,hb16,hb23,hb29]
               repeat with_reducible refine zN ?_
               refine hK33 _ ?_
               as_aux_lemma =>
                obtain ⟨v0_10,hv34,h⟩:=Option.bind_eq_some_iff.1 h
                refine adops.call (by first|trivial|rfl) rfl rfl rfl (fun _ h=>⟨fun _=>h,fun hn=>absurd rfl hn⟩) [57000,66000] [] (hc_linealref02_Same v0_6.1 v0_7.1 hv34) rfl (by (simp only [go_sem,hb2,hb5,hb16,hb23,hb29])<;>(with_reducible and_intros)<;>first|assumption|rfl|omega|(unfold maxLen; omega)) (by (simp only [go_sem,hb2,hb5,hb16,hb23,hb29])<;>(with_reducible and_intros)<;>first|assumption|rfl|omega|(unfold maxLen; omega)) rfl ?_
                refine adops_cut 3 (fun K' hK35=>?_)
                try dsimp only [List.drop_succ_cons,List.drop_zero,List.take_succ_cons,List.take_zero]
                simp only [go_sem,hb2,hb5,hb16,hb23,hb29]
                repeat with_reducible refine zN ?_
                refine hK35 _ ?_
                as_aux_lemma =>
                 rcases zI h with ⟨hb36,h⟩|⟨hb36,h⟩
                 ·simp only [hb36]
                  as_aux_lemma =>
                   refine adops_cut 4 (fun K' hK37=>?_)
                   try dsimp only [List.drop_succ_cons,List.drop_zero,List.take_succ_cons,List.take_zero]
                   simp only [go_sem,hb2,hb5,hb16,hb23,hb29,hb36]
                   repeat with_reducible refine zN ?_
                   refine hK37 _ ?_
                   refine adops_nil ?_
                   refine athen_n ?_
                   refine zV [(1,.sl (.int .i64) schedule),(2,.bp 2 0),(86,.bool true)] [(2,.box 27 [.int .i64 x0.1.1,.int .i64 x0.1.2.1,.sl (.sl (.int .i64)) x0.1.2.2.1,.sl (.sl (.int .i64)) x0.1.2.2.2,.sl (.sl (.pair (.int .i64) (.pair (.int .i64) (.pair (.int .i64) (.int .i64))))) x0.2.1,.sl (.sl (.int .i64)) x0.2.2])] gt ?_
                   as_aux_lemma =>
                    refine AW.cond (b:=true) rfl (fun _=>?_) (fun hb38=>by cases hb38)
                    refine zo ?_
                    refine zB [(4,.bool false)] [] ?_
                    refine zr ?_
                    obtain rfl:=Option.some.inj h
                    exact zR [] [] []
                 ·simp only [hb36]
                  as_aux_lemma =>
                   refine adops_cut 4 (fun K' hK39=>?_)
                   try dsimp only [List.drop_succ_cons,List.drop_zero,List.take_succ_cons,List.take_zero]
                   simp only [go_sem,hb2,hb5,hb16,hb23,hb29,hb36]
                   repeat with_reducible refine zN ?_
                   refine hK39 _ ?_
                   refine adops_nil ?_
                   refine athen_n ?_
                   refine zV [(1,.sl (.int .i64) schedule),(2,.bp 2 0),(86,.bool (!(decide (v0_6.2=v0_7.2))))] [(2,.box 27 [.int .i64 x0.1.1,.int .i64 x0.1.2.1,.sl (.sl (.int .i64)) x0.1.2.2.1,.sl (.sl (.int .i64)) x0.1.2.2.2,.sl (.sl (.pair (.int .i64) (.pair (.int .i64) (.pair (.int .i64) (.int .i64))))) x0.2.1,.sl (.sl (.int .i64)) x0.2.2])] gt ?_
                   as_aux_lemma =>
                    refine zQ h (fun hb40 h=>?_) (fun hb40 h=>?_)
                    ·refine zo ?_
                     refine zB [(4,.bool false)] [] ?_
                     refine zr ?_
                     obtain rfl:=Option.some.inj h
                     exact zR [] [] []
                    ·refine zk ?_
                     refine zo ?_
                     refine zS 5 [(1,.sl (.int .i64) schedule),(2,.bp 2 0),(89,.sl (.sl (.pair (.int .i64) (.pair (.int .i64) (.pair (.int .i64) (.int .i64))))) x0.2.1),(91,.sl (.sl (.int .i64)) x0.2.2),(92,.sl (.int .i64) schedule)] [(2,.box 27 [.int .i64 x0.1.1,.int .i64 x0.1.2.1,.sl (.sl (.int .i64)) x0.1.2.2.1,.sl (.sl (.int .i64)) x0.1.2.2.2,.sl (.sl (.pair (.int .i64) (.pair (.int .i64) (.pair (.int .i64) (.int .i64))))) x0.2.1,.sl (.sl (.int .i64)) x0.2.2])] ?_
                     obtain ⟨v0_11,hv41,h⟩:=Option.bind_eq_some_iff.1 h
                     refine zC [] [] (hc_code_Cells x0.2.1 x0.2.2 schedule hv41) [(1,.sl (.int .i64) schedule),(2,.bp 2 0),(93,.tup [.own 103000,.int .i64 v0_11.2])] [(2,.box 27 [.int .i64 x0.1.1,.int .i64 x0.1.2.1,.sl (.sl (.int .i64)) x0.1.2.2.1,.sl (.sl (.int .i64)) x0.1.2.2.2,.sl (.sl (.pair (.int .i64) (.pair (.int .i64) (.pair (.int .i64) (.int .i64))))) x0.2.1,.sl (.sl (.int .i64)) x0.2.2]),(103000,.arr 3 (.int .i64) v0_11.1)] ?_
                     refine zB [(1,.sl (.int .i64) schedule),(2,.bp 2 0),(6,.int .i64 v0_11.2),(13,.own 103000)] [(2,.box 27 [.int .i64 x0.1.1,.int .i64 x0.1.2.1,.sl (.sl (.int .i64)) x0.1.2.2.1,.sl (.sl (.int .i64)) x0.1.2.2.2,.sl (.sl (.pair (.int .i64) (.pair (.int .i64) (.pair (.int .i64) (.int .i64))))) x0.2.1,.sl (.sl (.int .i64)) x0.2.2]),(103000,.arr 3 (.int .i64) v0_11.1)] ?_
                     refine zo ?_
                     refine zS 5 [(1,.sl (.int .i64) schedule),(2,.bp 2 0),(6,.int .i64 v0_11.2),(13,.own 103000),(98,.sl (.sl (.pair (.int .i64) (.pair (.int .i64) (.pair (.int .i64) (.int .i64))))) x0.2.1),(100,.sl (.sl (.int .i64)) x0.2.2),(101,.sl (.int .i64) schedule)] [(2,.box 27 [.int .i64 x0.1.1,.int .i64 x0.1.2.1,.sl (.sl (.int .i64)) x0.1.2.2.1,.sl (.sl (.int .i64)) x0.1.2.2.2,.sl (.sl (.pair (.int .i64) (.pair (.int .i64) (.pair (.int .i64) (.int .i64))))) x0.2.1,.sl (.sl (.int .i64)) x0.2.2]),(103000,.arr 3 (.int .i64) v0_11.1)] ?_
                     obtain ⟨v0_12,hv42,h⟩:=Option.bind_eq_some_iff.1 h
                     refine zC [] [] (hc_linealref08_Cells x0.2.1 x0.2.2 schedule hv42) [(1,.sl (.int .i64) schedule),(2,.bp 2 0),(6,.int .i64 v0_11.2),(13,.own 103000),(102,.tup [.own 112000,.int .i64 v0_12.2])] [(2,.box 27 [.int .i64 x0.1.1,.int .i64 x0.1.2.1,.sl (.sl (.int .i64)) x0.1.2.2.1,.sl (.sl (.int .i64)) x0.1.2.2.2,.sl (.sl (.pair (.int .i64) (.pair (.int .i64) (.pair (.int .i64) (.int .i64))))) x0.2.1,.sl (.sl (.int .i64)) x0.2.2]),(103000,.arr 3 (.int .i64) v0_11.1),(112000,.arr 3 (.int .i64) v0_12.1)] ?_
                     refine zB [(1,.sl (.int .i64) schedule),(2,.bp 2 0),(6,.int .i64 v0_11.2),(8,.int .i64 v0_12.2),(13,.own 103000),(14,.own 112000)] [(2,.box 27 [.int .i64 x0.1.1,.int .i64 x0.1.2.1,.sl (.sl (.int .i64)) x0.1.2.2.1,.sl (.sl (.int .i64)) x0.1.2.2.2,.sl (.sl (.pair (.int .i64) (.pair (.int .i64) (.pair (.int .i64) (.int .i64))))) x0.2.1,.sl (.sl (.int .i64)) x0.2.2]),(103000,.arr 3 (.int .i64) v0_11.1),(112000,.arr 3 (.int .i64) v0_12.1)] ?_
                     refine zo ?_
                     refine zS 5 [(1,.sl (.int .i64) schedule),(2,.bp 2 0),(6,.int .i64 v0_11.2),(8,.int .i64 v0_12.2),(13,.own 103000),(14,.own 112000),(107,.sl (.sl (.pair (.int .i64) (.pair (.int .i64) (.pair (.int .i64) (.int .i64))))) x0.2.1),(109,.sl (.sl (.int .i64)) x0.2.2),(110,.sl (.int .i64) schedule)] [(2,.box 27 [.int .i64 x0.1.1,.int .i64 x0.1.2.1,.sl (.sl (.int .i64)) x0.1.2.2.1,.sl (.sl (.int .i64)) x0.1.2.2.2,.sl (.sl (.pair (.int .i64) (.pair (.int .i64) (.pair (.int .i64) (.int .i64))))) x0.2.1,.sl (.sl (.int .i64)) x0.2.2]),(103000,.arr 3 (.int .i64) v0_11.1),(112000,.arr 3 (.int .i64) v0_12.1)] ?_
                     obtain ⟨v0_13,hv43,h⟩:=Option.bind_eq_some_iff.1 h
                     refine zC [] [] (hc_code_Left x0.2.1 x0.2.2 schedule hv43) [(1,.sl (.int .i64) schedule),(2,.bp 2 0),(6,.int .i64 v0_11.2),(8,.int .i64 v0_12.2),(13,.own 103000),(14,.own 112000),(111,.tup [.own 121000,.int .i64 v0_13.2])] [(2,.box 27 [.int .i64 x0.1.1,.int .i64 x0.1.2.1,.sl (.sl (.int .i64)) x0.1.2.2.1,.sl (.sl (.int .i64)) x0.1.2.2.2,.sl (.sl (.pair (.int .i64) (.pair (.int .i64) (.pair (.int .i64) (.int .i64))))) x0.2.1,.sl (.sl (.int .i64)) x0.2.2]),(103000,.arr 3 (.int .i64) v0_11.1),(112000,.arr 3 (.int .i64) v0_12.1),(121000,.arr 3 (.int .i64) v0_13.1)] ?_
                     refine zB [(1,.sl (.int .i64) schedule),(2,.bp 2 0),(6,.int .i64 v0_11.2),(8,.int .i64 v0_12.2),(10,.int .i64 v0_13.2),(13,.own 103000),(14,.own 112000),(15,.own 121000)] [(2,.box 27 [.int .i64 x0.1.1,.int .i64 x0.1.2.1,.sl (.sl (.int .i64)) x0.1.2.2.1,.sl (.sl (.int .i64)) x0.1.2.2.2,.sl (.sl (.pair (.int .i64) (.pair (.int .i64) (.pair (.int .i64) (.int .i64))))) x0.2.1,.sl (.sl (.int .i64)) x0.2.2]),(103000,.arr 3 (.int .i64) v0_11.1),(112000,.arr 3 (.int .i64) v0_12.1),(121000,.arr 3 (.int .i64) v0_13.1)] ?_
                     refine zo ?_
                     refine zS 5 [(6,.int .i64 v0_11.2),(8,.int .i64 v0_12.2),(10,.int .i64 v0_13.2),(13,.own 103000),(14,.own 112000),(15,.own 121000),(116,.sl (.sl (.pair (.int .i64) (.pair (.int .i64) (.pair (.int .i64) (.int .i64))))) x0.2.1),(118,.sl (.sl (.int .i64)) x0.2.2),(119,.sl (.int .i64) schedule)] [(103000,.arr 3 (.int .i64) v0_11.1),(112000,.arr 3 (.int .i64) v0_12.1),(121000,.arr 3 (.int .i64) v0_13.1)] ?_
                     obtain ⟨v0_14,hv44,h⟩:=Option.bind_eq_some_iff.1 h
                     refine zC [] [] (hc_linealref08_Left x0.2.1 x0.2.2 schedule hv44) [(6,.int .i64 v0_11.2),(8,.int .i64 v0_12.2),(10,.int .i64 v0_13.2),(13,.own 103000),(14,.own 112000),(15,.own 121000),(120,.tup [.own 130000,.int .i64 v0_14.2])] [(103000,.arr 3 (.int .i64) v0_11.1),(112000,.arr 3 (.int .i64) v0_12.1),(121000,.arr 3 (.int .i64) v0_13.1),(130000,.arr 3 (.int .i64) v0_14.1)] ?_
                     refine zB [(6,.int .i64 v0_11.2),(8,.int .i64 v0_12.2),(10,.int .i64 v0_13.2),(12,.int .i64 v0_14.2),(13,.own 103000),(14,.own 112000),(15,.own 121000),(16,.own 130000)] [(103000,.arr 3 (.int .i64) v0_11.1),(112000,.arr 3 (.int .i64) v0_12.1),(121000,.arr 3 (.int .i64) v0_13.1),(130000,.arr 3 (.int .i64) v0_14.1)] ?_
                     refine zo ?_
                     refine zS 2 [(6,.int .i64 v0_11.2),(8,.int .i64 v0_12.2),(10,.int .i64 v0_13.2),(12,.int .i64 v0_14.2),(15,.own 121000),(16,.own 130000),(123,.own 103000),(124,.own 112000)] [(103000,.arr 3 (.int .i64) v0_11.1),(112000,.arr 3 (.int .i64) v0_12.1),(121000,.arr 3 (.int .i64) v0_13.1),(130000,.arr 3 (.int .i64) v0_14.1)] ?_
                     obtain ⟨v0_15,hv45,h⟩:=Option.bind_eq_some_iff.1 h
                     refine zC [103000,112000] [] (hc_linealref08_SameInts v0_11.1 v0_12.1 hv45) [(6,.int .i64 v0_11.2),(8,.int .i64 v0_12.2),(10,.int .i64 v0_13.2),(12,.int .i64 v0_14.2),(15,.own 121000),(16,.own 130000),(125,.bool v0_15)] [(121000,.arr 3 (.int .i64) v0_13.1),(130000,.arr 3 (.int .i64) v0_14.1)] ?_
                     refine zS 1 [(6,.int .i64 v0_11.2),(8,.int .i64 v0_12.2),(10,.int .i64 v0_13.2),(12,.int .i64 v0_14.2),(15,.own 121000),(16,.own 130000),(126,.bool v0_15)] [(121000,.arr 3 (.int .i64) v0_13.1),(130000,.arr 3 (.int .i64) v0_14.1)] ?_
                     rcases zI h with ⟨hb46,h⟩|⟨hb46,h⟩
                     ·refine zS 5 [(10,.int .i64 v0_13.2),(12,.int .i64 v0_14.2),(15,.own 121000),(16,.own 130000),(131,.bool (decide (v0_11.2=v0_12.2)))] [(121000,.arr 3 (.int .i64) v0_13.1),(130000,.arr 3 (.int .i64) v0_14.1)] ?_
                      rcases zI h with ⟨hb47,h⟩|⟨hb47,h⟩
                      ·refine zS 2 [(10,.int .i64 v0_13.2),(12,.int .i64 v0_14.2),(131,.bool true),(132,.own 121000),(133,.own 130000)] [(121000,.arr 3 (.int .i64) v0_13.1),(130000,.arr 3 (.int .i64) v0_14.1)] ?_
                       obtain ⟨v0_16,hv48,h⟩:=Option.bind_eq_some_iff.1 h
                       refine zG [121000,130000] [] (hc_linealref08_SameInts v0_13.1 v0_14.1 hv48) [(10,.int .i64 v0_13.2),(12,.int .i64 v0_14.2),(131,.bool true),(134,.bool v0_16)] [] ?_
                       refine zS 2 [(10,.int .i64 v0_13.2),(12,.int .i64 v0_14.2),(136,.bool v0_16)] [] ?_
                       rcases zI h with ⟨hb49,h⟩|⟨hb49,h⟩
                       ·refine zS 5 [(141,.bool (decide (v0_13.2=v0_14.2)))] [] ?_
                        rcases zI h with ⟨hb50,h⟩|⟨hb50,h⟩
                        ·refine zT [(141,.bool true)] [] gt ?_
                         obtain ⟨v0_17,hv51,h⟩:=Option.bind_eq_some_iff.1 h
                         refine zG [] [] (hc_lineallaw08_Sane hv51) [(141,.bool true),(142,.bool v0_17)] [] ?_
                         refine zB [(4,.bool v0_17)] [] ?_
                         refine AW.ret ?_
                         obtain rfl:=Option.some.inj h
                         exact zR [] [] []
                        ·refine zB [(4,.bool false)] [] ?_
                         refine AW.ret ?_
                         obtain rfl:=Option.some.inj h
                         exact zR [] [] []
                       ·refine zS 5 [(141,.bool false)] [] ?_
                        refine zB [(4,.bool false)] [] ?_
                        refine AW.ret ?_
                        obtain rfl:=Option.some.inj h
                        exact zR [] [] []
                      ·refine zS 5 [(10,.int .i64 v0_13.2),(12,.int .i64 v0_14.2),(136,.bool false)] [] ?_
                       refine zS 5 [(141,.bool false)] [] ?_
                       refine zB [(4,.bool false)] [] ?_
                       refine AW.ret ?_
                       obtain rfl:=Option.some.inj h
                       exact zR [] [] []
                     ·refine zS 5 [(10,.int .i64 v0_13.2),(12,.int .i64 v0_14.2),(15,.own 121000),(16,.own 130000),(131,.bool false)] [(121000,.arr 3 (.int .i64) v0_13.1),(130000,.arr 3 (.int .i64) v0_14.1)] ?_
                      refine zS 5 [(10,.int .i64 v0_13.2),(12,.int .i64 v0_14.2),(136,.bool false)] [] ?_
                      refine zS 5 [(141,.bool false)] [] ?_
                      refine zB [(4,.bool false)] [] ?_
                      refine AW.ret ?_
                      obtain rfl:=Option.some.inj h
                      exact zR [] [] []
end Go.Proofs.Ytkocijiclklbfaa
