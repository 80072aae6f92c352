import Derived.Test.YtenchhmcjmjlbaaCkp
import Derived.Test.YtenchhmcjmjlbaaShk
import Derived.Test.YtenchhmcjmjlbaaAvd
import Derived.Test.YtenchhmcjmjlbaaCbc11
import Derived.Test.YtenchhmcjmjlbaaCbc6
import Derived.Test.YtenchhmcjmjlbaaCbc7
import Derived.Test.YtenchhmcjmjlbaaCbc8
import Derived.Test.YtenchhmcjmjlbaaCbc9
namespace Go.Proofs.Ytenchhmcjmjlbaa
open Go.RowKit
set_option linter.unusedSimpArgs false
set_option linter.unusedVariables false
set_option linter.constructorNameAsVariable false
set_option maxRecDepth 100000
set_option maxHeartbeats 40000000
theorem hc_lineallaw08_CodeBegins (x0:(Int×Int×(List (List Int))×(List (List Int)))×(List (List (Int×Int×Int×Int)))×(List (List Int))) (picks:List Int) (part:Int) {r:Bool} (h:lineallaw08_CodeBegins x0 picks part=some r):HC Try.prog 8 [] [.agg [.int .i64 x0.1.1,.int .i64 x0.1.2.1,.sl (.sl (.int .i64)) x0.1.2.2.1,.sl (.sl (.int .i64)) x0.1.2.2.2,.sl (.sl (.pair (.int .i64) (.pair (.int .i64) (.pair (.int .i64) (.int .i64))))) x0.2.1,.sl (.sl (.int .i64)) x0.2.2],.sl (.int .u8) picks,.int .u8 part] [] (.bool r):=by
 unfold lineallaw08_CodeBegins at h
 refine zH Try.func8 [.tmp 6] 167 ?_
 refine zo ?_
 refine zB [(1,.sl (.int .u8) picks),(2,.int .u8 part),(3,.bp 3 0)] [(3,.box 27 [.int .i64 x0.1.1,.int .i64 x0.1.2.1,.sl (.sl (.int .i64)) x0.1.2.2.1,.sl (.sl (.int .i64)) x0.1.2.2.2,.sl (.sl (.pair (.int .i64) (.pair (.int .i64) (.pair (.int .i64) (.int .i64))))) x0.2.1,.sl (.sl (.int .i64)) x0.2.2])] ?_
 refine AW.seq ?_
 refine zo ?_
 refine zS 1 [(1,.sl (.int .u8) picks),(2,.int .u8 part),(3,.bp 3 0),(21,.agg [.int .i64 x0.1.1,.int .i64 x0.1.2.1,.sl (.sl (.int .i64)) x0.1.2.2.1,.sl (.sl (.int .i64)) x0.1.2.2.2,.sl (.sl (.pair (.int .i64) (.pair (.int .i64) (.pair (.int .i64) (.int .i64))))) x0.2.1,.sl (.sl (.int .i64)) x0.2.2])] [(3,.box 27 [.int .i64 x0.1.1,.int .i64 x0.1.2.1,.sl (.sl (.int .i64)) x0.1.2.2.1,.sl (.sl (.int .i64)) x0.1.2.2.2,.sl (.sl (.pair (.int .i64) (.pair (.int .i64) (.pair (.int .i64) (.int .i64))))) x0.2.1,.sl (.sl (.int .i64)) x0.2.2])] ?_
 obtain ⟨v0,hv1,h⟩:=Option.bind_eq_some_iff.1 h
 refine zC [] [] (hc_lineallaw08_IsCase x0 hv1) [(1,.sl (.int .u8) picks),(2,.int .u8 part),(3,.bp 3 0),(22,.bool v0)] [(3,.box 27 [.int .i64 x0.1.1,.int .i64 x0.1.2.1,.sl (.sl (.int .i64)) x0.1.2.2.1,.sl (.sl (.int .i64)) x0.1.2.2.2,.sl (.sl (.pair (.int .i64) (.pair (.int .i64) (.pair (.int .i64) (.int .i64))))) x0.2.1,.sl (.sl (.int .i64)) x0.2.2])] ?_
 refine zS 2 [(1,.sl (.int .u8) picks),(2,.int .u8 part),(3,.bp 3 0),(24,.bool (!v0))] [(3,.box 27 [.int .i64 x0.1.1,.int .i64 x0.1.2.1,.sl (.sl (.int .i64)) x0.1.2.2.1,.sl (.sl (.int .i64)) x0.1.2.2.2,.sl (.sl (.pair (.int .i64) (.pair (.int .i64) (.pair (.int .i64) (.int .i64))))) x0.2.1,.sl (.sl (.int .i64)) x0.2.2])] ?_
 rcases zI h with ⟨hb2,h⟩|⟨hb2,h⟩
 ·refine zB [(1,.sl (.int .u8) picks),(2,.int .u8 part),(3,.bp 3 0),(28,.bool true)] [(3,.box 27 [.int .i64 x0.1.1,.int .i64 x0.1.2.1,.sl (.sl (.int .i64)) x0.1.2.2.1,.sl (.sl (.int .i64)) x0.1.2.2.2,.sl (.sl (.pair (.int .i64) (.pair (.int .i64) (.pair (.int .i64) (.int .i64))))) x0.2.1,.sl (.sl (.int .i64)) x0.2.2])] ?_
  refine AW.cond (b:=true) rfl (fun _=>?_) (fun hb3=>by cases hb3)
  refine zo ?_
  obtain ⟨v0_2,hv4,h⟩:=Option.bind_eq_some_iff.1 h
  refine zC [] [] (hc_lineallaw08_Sane hv4) [(29,.bool v0_2)] [] ?_
  refine zB [(6,.bool v0_2)] [] ?_
  refine zr ?_
  obtain rfl:=Option.some.inj h
  exact zR [] [] []
 ·refine zB [(1,.sl (.int .u8) picks),(2,.int .u8 part),(3,.bp 3 0),(28,.bool (decide (60<(picks.length:Int))))] [(3,.box 27 [.int .i64 x0.1.1,.int .i64 x0.1.2.1,.sl (.sl (.int .i64)) x0.1.2.2.1,.sl (.sl (.int .i64)) x0.1.2.2.2,.sl (.sl (.pair (.int .i64) (.pair (.int .i64) (.pair (.int .i64) (.int .i64))))) x0.2.1,.sl (.sl (.int .i64)) x0.2.2])] ?_
  refine zQ h (fun hb5 h=>?_) (fun hb5 h=>?_)
  ·refine zo ?_
   obtain ⟨v0_3,hv6,h⟩:=Option.bind_eq_some_iff.1 h
   refine zC [] [] (hc_lineallaw08_Sane hv6) [(29,.bool v0_3)] [] ?_
   refine zB [(6,.bool v0_3)] [] ?_
   refine zr ?_
   obtain rfl:=Option.some.inj h
   exact zR [] [] []
  ·refine zk ?_
   refine zo ?_
   refine zS 2 [(2,.int .u8 part),(3,.bp 3 0),(31,.agg [.int .i64 x0.1.1,.int .i64 x0.1.2.1,.sl (.sl (.int .i64)) x0.1.2.2.1,.sl (.sl (.int .i64)) x0.1.2.2.2,.sl (.sl (.pair (.int .i64) (.pair (.int .i64) (.pair (.int .i64) (.int .i64))))) x0.2.1,.sl (.sl (.int .i64)) x0.2.2]),(32,.sl (.int .u8) picks)] [(3,.box 27 [.int .i64 x0.1.1,.int .i64 x0.1.2.1,.sl (.sl (.int .i64)) x0.1.2.2.1,.sl (.sl (.int .i64)) x0.1.2.2.2,.sl (.sl (.pair (.int .i64) (.pair (.int .i64) (.pair (.int .i64) (.int .i64))))) x0.2.1,.sl (.sl (.int .i64)) x0.2.2])] ?_
   obtain ⟨v0_4,hv7,h⟩:=Option.bind_eq_some_iff.1 h
   refine zC [] [] (hc_lineallaw08_schedule x0 picks 12 hv7) [(2,.int .u8 part),(3,.bp 3 0),(33,.tup [.own 43000,.bool v0_4.2.1,.bool v0_4.2.2])] [(3,.box 27 [.int .i64 x0.1.1,.int .i64 x0.1.2.1,.sl (.sl (.int .i64)) x0.1.2.2.1,.sl (.sl (.int .i64)) x0.1.2.2.2,.sl (.sl (.pair (.int .i64) (.pair (.int .i64) (.pair (.int .i64) (.int .i64))))) x0.2.1,.sl (.sl (.int .i64)) x0.2.2]),(43000,.arr 3 (.int .i64) v0_4.1)] ?_
   refine zS 5 [(2,.int .u8 part),(3,.bp 3 0),(7,.own 43000),(35,.bool v0_4.2.1),(36,.bool v0_4.2.2)] [(3,.box 27 [.int .i64 x0.1.1,.int .i64 x0.1.2.1,.sl (.sl (.int .i64)) x0.1.2.2.1,.sl (.sl (.int .i64)) x0.1.2.2.2,.sl (.sl (.pair (.int .i64) (.pair (.int .i64) (.pair (.int .i64) (.int .i64))))) x0.2.1,.sl (.sl (.int .i64)) x0.2.2]),(43000,.arr 3 (.int .i64) v0_4.1)] ?_
   refine zB [(2,.int .u8 part),(3,.bp 3 0),(7,.own 43000),(8,.bool v0_4.2.1),(9,.bool v0_4.2.2)] [(3,.box 27 [.int .i64 x0.1.1,.int .i64 x0.1.2.1,.sl (.sl (.int .i64)) x0.1.2.2.1,.sl (.sl (.int .i64)) x0.1.2.2.2,.sl (.sl (.pair (.int .i64) (.pair (.int .i64) (.pair (.int .i64) (.int .i64))))) x0.2.1,.sl (.sl (.int .i64)) x0.2.2]),(43000,.arr 3 (.int .i64) v0_4.1)] ?_
   refine AW.seq ?_
   refine zo ?_
   refine zB [(2,.int .u8 part),(3,.bp 3 0),(7,.own 43000),(8,.bool v0_4.2.1),(38,.bool (!v0_4.2.2))] [(3,.box 27 [.int .i64 x0.1.1,.int .i64 x0.1.2.1,.sl (.sl (.int .i64)) x0.1.2.2.1,.sl (.sl (.int .i64)) x0.1.2.2.2,.sl (.sl (.pair (.int .i64) (.pair (.int .i64) (.pair (.int .i64) (.int .i64))))) x0.2.1,.sl (.sl (.int .i64)) x0.2.2]),(43000,.arr 3 (.int .i64) v0_4.1)] ?_
   refine zQ h (fun hb8 h=>?_) (fun hb8 h=>?_)
   ·refine zo ?_
    refine zB [(6,.bool false)] [] ?_
    refine zr ?_
    obtain rfl:=Option.some.inj h
    exact zR [] [] []
   ·refine zk ?_
    refine zo ?_
    refine zS 5 [(2,.int .u8 part),(3,.bp 3 0),(7,.own 43000),(8,.bool v0_4.2.1),(41,.sl (.sl (.pair (.int .i64) (.pair (.int .i64) (.pair (.int .i64) (.int .i64))))) x0.2.1),(43,.sl (.sl (.int .i64)) x0.2.2),(44,.own 43000)] [(3,.box 27 [.int .i64 x0.1.1,.int .i64 x0.1.2.1,.sl (.sl (.int .i64)) x0.1.2.2.1,.sl (.sl (.int .i64)) x0.1.2.2.2,.sl (.sl (.pair (.int .i64) (.pair (.int .i64) (.pair (.int .i64) (.int .i64))))) x0.2.1,.sl (.sl (.int .i64)) x0.2.2]),(43000,.arr 3 (.int .i64) v0_4.1)] ?_
    obtain ⟨v0_5,hv9,h⟩:=Option.bind_eq_some_iff.1 h
    refine zC [43000] [] (hc_code_Run x0.2.1 x0.2.2 v0_4.1 hv9) [(2,.int .u8 part),(3,.bp 3 0),(7,.own 43000),(8,.bool v0_4.2.1),(45,.tup [.own 55000,.int .i64 v0_5.2])] [(3,.box 27 [.int .i64 x0.1.1,.int .i64 x0.1.2.1,.sl (.sl (.int .i64)) x0.1.2.2.1,.sl (.sl (.int .i64)) x0.1.2.2.2,.sl (.sl (.pair (.int .i64) (.pair (.int .i64) (.pair (.int .i64) (.int .i64))))) x0.2.1,.sl (.sl (.int .i64)) x0.2.2]),(43000,.arr 3 (.int .i64) v0_4.1),(55000,.arr 68 (.pair (.int .i64) (.pair (.int .i64) (.pair (.int .i64) (.pair (.int .i64) (.pair (.int .i64) (.int .i64)))))) v0_5.1)] ?_
    refine zB [(2,.int .u8 part),(3,.bp 3 0),(7,.own 43000),(8,.bool v0_4.2.1),(10,.own 55000),(11,.int .i64 v0_5.2)] [(3,.box 27 [.int .i64 x0.1.1,.int .i64 x0.1.2.1,.sl (.sl (.int .i64)) x0.1.2.2.1,.sl (.sl (.int .i64)) x0.1.2.2.2,.sl (.sl (.pair (.int .i64) (.pair (.int .i64) (.pair (.int .i64) (.int .i64))))) x0.2.1,.sl (.sl (.int .i64)) x0.2.2]),(43000,.arr 3 (.int .i64) v0_4.1),(55000,.arr 68 (.pair (.int .i64) (.pair (.int .i64) (.pair (.int .i64) (.pair (.int .i64) (.pair (.int .i64) (.int .i64)))))) v0_5.1)] ?_
    refine zo ?_
    obtain ⟨c10,h⟩:=ck_some.1 h
    obtain ⟨c11,h⟩:=ck_some.1 h
    refine zS 5 [(3,.bp 3 0),(7,.own 43000),(8,.bool v0_4.2.1),(10,.own 55000),(11,.int .i64 v0_5.2),(49,.int .i64 part),(52,.int .i64 ((v0_4.1.length:Int)+1))] [(3,.box 27 [.int .i64 x0.1.1,.int .i64 x0.1.2.1,.sl (.sl (.int .i64)) x0.1.2.2.1,.sl (.sl (.int .i64)) x0.1.2.2.2,.sl (.sl (.pair (.int .i64) (.pair (.int .i64) (.pair (.int .i64) (.int .i64))))) x0.2.1,.sl (.sl (.int .i64)) x0.2.2]),(43000,.arr 3 (.int .i64) v0_4.1),(55000,.arr 68 (.pair (.int .i64) (.pair (.int .i64) (.pair (.int .i64) (.pair (.int .i64) (.pair (.int .i64) (.int .i64)))))) v0_5.1)] ?_
    obtain ⟨c12,h⟩:=ck_some.1 h
    obtain ⟨c13,h⟩:=ck_some.1 h
    refine zB [(3,.bp 3 0),(7,.own 43000),(8,.bool v0_4.2.1),(10,.own 55000),(11,.int .i64 v0_5.2),(12,.int .i64 (part % ((v0_4.1.length:Int)+1)))] [(3,.box 27 [.int .i64 x0.1.1,.int .i64 x0.1.2.1,.sl (.sl (.int .i64)) x0.1.2.2.1,.sl (.sl (.int .i64)) x0.1.2.2.2,.sl (.sl (.pair (.int .i64) (.pair (.int .i64) (.pair (.int .i64) (.int .i64))))) x0.2.1,.sl (.sl (.int .i64)) x0.2.2]),(43000,.arr 3 (.int .i64) v0_4.1),(55000,.arr 68 (.pair (.int .i64) (.pair (.int .i64) (.pair (.int .i64) (.pair (.int .i64) (.pair (.int .i64) (.int .i64)))))) v0_5.1)] ?_
    refine AW.seq ?_
    refine AW.draw tab_ok mixed_ok [(6,[43000]),(7,[72000])] [(0,[3]),(1,[3]),(2,[3]),(3,[3])] (by decide) (lex_fast (by kernel_rfl)) ?_
    as_aux_lemma =>
     refine adops_cut 6 (fun K' hK14=>?_)
     try dsimp only [List.drop_succ_cons,List.drop_zero,List.take_succ_cons,List.take_zero]
     simp only [go_sem,hb2,hb5,hb8]
     repeat with_reducible refine zN ?_
     refine hK14 _ ?_
     as_aux_lemma =>
      obtain ⟨c16,h⟩:=ck_some.1 h
      obtain ⟨c17,h⟩:=ck_some.1 h
      refine adops_cut 1 (fun K' hK15=>?_)
      try dsimp only [List.drop_succ_cons,List.drop_zero,List.take_succ_cons,List.take_zero]
      simp only [go_sem,hb2,hb5,hb8]
      repeat with_reducible refine zN ?_
      refine hK15 _ ?_
      as_aux_lemma =>
       obtain ⟨v0_6,hv18,h⟩:=Option.bind_eq_some_iff.1 h
       refine adops.call (by first|trivial|rfl) rfl rfl rfl (fun _ h=>h) [] [] (hc_code_Run x0.2.1 x0.2.2 (v0_4.1.take (part % ((v0_4.1.length:Int)+1)).toNat) hv18) rfl (by (simp only [go_sem,hb2,hb5,hb8])<;>(with_reducible and_intros)<;>first|assumption|rfl|omega|(unfold maxLen; omega)) (by (simp only [go_sem,hb2,hb5,hb8])<;>(with_reducible and_intros)<;>first|assumption|rfl|omega|(unfold maxLen; omega)) rfl ?_
       refine adops_cut 5 (fun K' hK19=>?_)
       try dsimp only [List.drop_succ_cons,List.drop_zero,List.take_succ_cons,List.take_zero]
       simp only [go_sem,hb2,hb5,hb8]
       repeat with_reducible refine zN ?_
       refine hK19 _ ?_
       refine adops_nil ?_
       refine athen_n ?_
       refine zV [(3,.bp 3 0),(8,.bool v0_4.2.1),(10,.own 55000),(11,.int .i64 v0_5.2),(12,.int .i64 (part % ((v0_4.1.length:Int)+1))),(13,.own 72000),(14,.int .i64 v0_6.2)] [(3,.box 27 [.int .i64 x0.1.1,.int .i64 x0.1.2.1,.sl (.sl (.int .i64)) x0.1.2.2.1,.sl (.sl (.int .i64)) x0.1.2.2.2,.sl (.sl (.pair (.int .i64) (.pair (.int .i64) (.pair (.int .i64) (.int .i64))))) x0.2.1,.sl (.sl (.int .i64)) x0.2.2]),(55000,.arr 68 (.pair (.int .i64) (.pair (.int .i64) (.pair (.int .i64) (.pair (.int .i64) (.pair (.int .i64) (.int .i64)))))) v0_5.1),(72000,.arr 68 (.pair (.int .i64) (.pair (.int .i64) (.pair (.int .i64) (.pair (.int .i64) (.pair (.int .i64) (.int .i64)))))) v0_6.1)] gt ?_
       as_aux_lemma =>
        refine zo ?_
        obtain ⟨c20,h⟩:=ck_some.1 h
        refine zS 3 [(3,.bp 3 0),(8,.bool v0_4.2.1),(10,.own 55000),(11,.int .i64 v0_5.2),(13,.own 72000),(14,.int .i64 v0_6.2),(66,.own 55000),(68,.int .i64 (2*(part % ((v0_4.1.length:Int)+1))))] [(3,.box 27 [.int .i64 x0.1.1,.int .i64 x0.1.2.1,.sl (.sl (.int .i64)) x0.1.2.2.1,.sl (.sl (.int .i64)) x0.1.2.2.2,.sl (.sl (.pair (.int .i64) (.pair (.int .i64) (.pair (.int .i64) (.int .i64))))) x0.2.1,.sl (.sl (.int .i64)) x0.2.2]),(55000,.arr 68 (.pair (.int .i64) (.pair (.int .i64) (.pair (.int .i64) (.pair (.int .i64) (.pair (.int .i64) (.int .i64)))))) v0_5.1),(72000,.arr 68 (.pair (.int .i64) (.pair (.int .i64) (.pair (.int .i64) (.pair (.int .i64) (.pair (.int .i64) (.int .i64)))))) v0_6.1)] ?_
        obtain ⟨v0_7,hv21,h⟩:=Option.bind_eq_some_iff.1 h
        refine zC [55000] [] (hc_history_Until v0_5.1 (2*(part % ((v0_4.1.length:Int)+1))) hv21) [(3,.bp 3 0),(8,.bool v0_4.2.1),(10,.own 55000),(11,.int .i64 v0_5.2),(13,.own 72000),(14,.int .i64 v0_6.2),(69,.tup [.own 79000,.int .i64 v0_7.2])] [(3,.box 27 [.int .i64 x0.1.1,.int .i64 x0.1.2.1,.sl (.sl (.int .i64)) x0.1.2.2.1,.sl (.sl (.int .i64)) x0.1.2.2.2,.sl (.sl (.pair (.int .i64) (.pair (.int .i64) (.pair (.int .i64) (.int .i64))))) x0.2.1,.sl (.sl (.int .i64)) x0.2.2]),(55000,.arr 68 (.pair (.int .i64) (.pair (.int .i64) (.pair (.int .i64) (.pair (.int .i64) (.pair (.int .i64) (.int .i64)))))) v0_5.1),(72000,.arr 68 (.pair (.int .i64) (.pair (.int .i64) (.pair (.int .i64) (.pair (.int .i64) (.pair (.int .i64) (.int .i64)))))) v0_6.1),(79000,.arr 68 (.pair (.int .i64) (.pair (.int .i64) (.pair (.int .i64) (.pair (.int .i64) (.pair (.int .i64) (.int .i64)))))) v0_7.1)] ?_
        refine zB [(3,.bp 3 0),(8,.bool v0_4.2.1),(10,.own 55000),(11,.int .i64 v0_5.2),(13,.own 72000),(14,.int .i64 v0_6.2),(15,.own 79000),(16,.int .i64 v0_7.2)] [(3,.box 27 [.int .i64 x0.1.1,.int .i64 x0.1.2.1,.sl (.sl (.int .i64)) x0.1.2.2.1,.sl (.sl (.int .i64)) x0.1.2.2.2,.sl (.sl (.pair (.int .i64) (.pair (.int .i64) (.pair (.int .i64) (.int .i64))))) x0.2.1,.sl (.sl (.int .i64)) x0.2.2]),(55000,.arr 68 (.pair (.int .i64) (.pair (.int .i64) (.pair (.int .i64) (.pair (.int .i64) (.pair (.int .i64) (.int .i64)))))) v0_5.1),(72000,.arr 68 (.pair (.int .i64) (.pair (.int .i64) (.pair (.int .i64) (.pair (.int .i64) (.pair (.int .i64) (.int .i64)))))) v0_6.1),(79000,.arr 68 (.pair (.int .i64) (.pair (.int .i64) (.pair (.int .i64) (.pair (.int .i64) (.pair (.int .i64) (.int .i64)))))) v0_7.1)] ?_
        refine AW.seq ?_
        refine zo ?_
        refine zS 3 [(3,.bp 3 0),(8,.bool v0_4.2.1),(10,.own 55000),(13,.own 72000),(14,.int .i64 v0_6.2),(15,.own 79000),(16,.int .i64 v0_7.2),(74,.bool (!(decide (v0_5.2=0))))] [(3,.box 27 [.int .i64 x0.1.1,.int .i64 x0.1.2.1,.sl (.sl (.int .i64)) x0.1.2.2.1,.sl (.sl (.int .i64)) x0.1.2.2.2,.sl (.sl (.pair (.int .i64) (.pair (.int .i64) (.pair (.int .i64) (.int .i64))))) x0.2.1,.sl (.sl (.int .i64)) x0.2.2]),(55000,.arr 68 (.pair (.int .i64) (.pair (.int .i64) (.pair (.int .i64) (.pair (.int .i64) (.pair (.int .i64) (.int .i64)))))) v0_5.1),(72000,.arr 68 (.pair (.int .i64) (.pair (.int .i64) (.pair (.int .i64) (.pair (.int .i64) (.pair (.int .i64) (.int .i64)))))) v0_6.1),(79000,.arr 68 (.pair (.int .i64) (.pair (.int .i64) (.pair (.int .i64) (.pair (.int .i64) (.pair (.int .i64) (.int .i64)))))) v0_7.1)] ?_
        rcases zI h with ⟨hb22,h⟩|⟨hb22,h⟩
        ·refine zS 5 [(3,.bp 3 0),(8,.bool v0_4.2.1),(10,.own 55000),(13,.own 72000),(15,.own 79000),(78,.bool true),(79,.cv (undef))] [(3,.box 27 [.int .i64 x0.1.1,.int .i64 x0.1.2.1,.sl (.sl (.int .i64)) x0.1.2.2.1,.sl (.sl (.int .i64)) x0.1.2.2.2,.sl (.sl (.pair (.int .i64) (.pair (.int .i64) (.pair (.int .i64) (.int .i64))))) x0.2.1,.sl (.sl (.int .i64)) x0.2.2]),(55000,.arr 68 (.pair (.int .i64) (.pair (.int .i64) (.pair (.int .i64) (.pair (.int .i64) (.pair (.int .i64) (.int .i64)))))) v0_5.1),(72000,.arr 68 (.pair (.int .i64) (.pair (.int .i64) (.pair (.int .i64) (.pair (.int .i64) (.pair (.int .i64) (.int .i64)))))) v0_6.1),(79000,.arr 68 (.pair (.int .i64) (.pair (.int .i64) (.pair (.int .i64) (.pair (.int .i64) (.pair (.int .i64) (.int .i64)))))) v0_7.1)] ?_
         refine zS 5 [(3,.bp 3 0),(8,.bool v0_4.2.1),(10,.own 55000),(82,.bool true),(83,.cv (undef)),(84,.cv (undef))] [(3,.box 27 [.int .i64 x0.1.1,.int .i64 x0.1.2.1,.sl (.sl (.int .i64)) x0.1.2.2.1,.sl (.sl (.int .i64)) x0.1.2.2.2,.sl (.sl (.pair (.int .i64) (.pair (.int .i64) (.pair (.int .i64) (.int .i64))))) x0.2.1,.sl (.sl (.int .i64)) x0.2.2]),(55000,.arr 68 (.pair (.int .i64) (.pair (.int .i64) (.pair (.int .i64) (.pair (.int .i64) (.pair (.int .i64) (.int .i64)))))) v0_5.1)] ?_
         refine zB [(3,.bp 3 0),(8,.bool v0_4.2.1),(10,.own 55000),(87,.bool true)] [(3,.box 27 [.int .i64 x0.1.1,.int .i64 x0.1.2.1,.sl (.sl (.int .i64)) x0.1.2.2.1,.sl (.sl (.int .i64)) x0.1.2.2.2,.sl (.sl (.pair (.int .i64) (.pair (.int .i64) (.pair (.int .i64) (.int .i64))))) x0.2.1,.sl (.sl (.int .i64)) x0.2.2]),(55000,.arr 68 (.pair (.int .i64) (.pair (.int .i64) (.pair (.int .i64) (.pair (.int .i64) (.pair (.int .i64) (.int .i64)))))) v0_5.1)] ?_
         refine AW.cond (b:=true) rfl (fun _=>?_) (fun hb23=>by cases hb23)
         refine zo ?_
         refine zB [(6,.bool false)] [] ?_
         refine zr ?_
         obtain rfl:=Option.some.inj h
         exact zR [] [] []
        ·refine zS 4 [(3,.bp 3 0),(8,.bool v0_4.2.1),(10,.own 55000),(13,.own 72000),(15,.own 79000),(16,.int .i64 v0_7.2),(78,.bool (!(decide (v0_6.2=0))))] [(3,.box 27 [.int .i64 x0.1.1,.int .i64 x0.1.2.1,.sl (.sl (.int .i64)) x0.1.2.2.1,.sl (.sl (.int .i64)) x0.1.2.2.2,.sl (.sl (.pair (.int .i64) (.pair (.int .i64) (.pair (.int .i64) (.int .i64))))) x0.2.1,.sl (.sl (.int .i64)) x0.2.2]),(55000,.arr 68 (.pair (.int .i64) (.pair (.int .i64) (.pair (.int .i64) (.pair (.int .i64) (.pair (.int .i64) (.int .i64)))))) v0_5.1),(72000,.arr 68 (.pair (.int .i64) (.pair (.int .i64) (.pair (.int .i64) (.pair (.int .i64) (.pair (.int .i64) (.int .i64)))))) v0_6.1),(79000,.arr 68 (.pair (.int .i64) (.pair (.int .i64) (.pair (.int .i64) (.pair (.int .i64) (.pair (.int .i64) (.int .i64)))))) v0_7.1)] ?_
         rcases zI h with ⟨hb24,h⟩|⟨hb24,h⟩
         ·refine zS 5 [(3,.bp 3 0),(8,.bool v0_4.2.1),(10,.own 55000),(15,.own 79000),(82,.bool true),(83,.cv (undef))] [(3,.box 27 [.int .i64 x0.1.1,.int .i64 x0.1.2.1,.sl (.sl (.int .i64)) x0.1.2.2.1,.sl (.sl (.int .i64)) x0.1.2.2.2,.sl (.sl (.pair (.int .i64) (.pair (.int .i64) (.pair (.int .i64) (.int .i64))))) x0.2.1,.sl (.sl (.int .i64)) x0.2.2]),(55000,.arr 68 (.pair (.int .i64) (.pair (.int .i64) (.pair (.int .i64) (.pair (.int .i64) (.pair (.int .i64) (.int .i64)))))) v0_5.1),(79000,.arr 68 (.pair (.int .i64) (.pair (.int .i64) (.pair (.int .i64) (.pair (.int .i64) (.pair (.int .i64) (.int .i64)))))) v0_7.1)] ?_
          refine zB [(3,.bp 3 0),(8,.bool v0_4.2.1),(10,.own 55000),(87,.bool true)] [(3,.box 27 [.int .i64 x0.1.1,.int .i64 x0.1.2.1,.sl (.sl (.int .i64)) x0.1.2.2.1,.sl (.sl (.int .i64)) x0.1.2.2.2,.sl (.sl (.pair (.int .i64) (.pair (.int .i64) (.pair (.int .i64) (.int .i64))))) x0.2.1,.sl (.sl (.int .i64)) x0.2.2]),(55000,.arr 68 (.pair (.int .i64) (.pair (.int .i64) (.pair (.int .i64) (.pair (.int .i64) (.pair (.int .i64) (.int .i64)))))) v0_5.1)] ?_
          refine AW.cond (b:=true) rfl (fun _=>?_) (fun hb25=>by cases hb25)
          refine zo ?_
          refine zB [(6,.bool false)] [] ?_
          refine zr ?_
          obtain rfl:=Option.some.inj h
          exact zR [] [] []
         ·refine zS 4 [(3,.bp 3 0),(8,.bool v0_4.2.1),(10,.own 55000),(13,.own 72000),(15,.own 79000),(82,.bool (!(decide (v0_7.2=0))))] [(3,.box 27 [.int .i64 x0.1.1,.int .i64 x0.1.2.1,.sl (.sl (.int .i64)) x0.1.2.2.1,.sl (.sl (.int .i64)) x0.1.2.2.2,.sl (.sl (.pair (.int .i64) (.pair (.int .i64) (.pair (.int .i64) (.int .i64))))) x0.2.1,.sl (.sl (.int .i64)) x0.2.2]),(55000,.arr 68 (.pair (.int .i64) (.pair (.int .i64) (.pair (.int .i64) (.pair (.int .i64) (.pair (.int .i64) (.int .i64)))))) v0_5.1),(72000,.arr 68 (.pair (.int .i64) (.pair (.int .i64) (.pair (.int .i64) (.pair (.int .i64) (.pair (.int .i64) (.int .i64)))))) v0_6.1),(79000,.arr 68 (.pair (.int .i64) (.pair (.int .i64) (.pair (.int .i64) (.pair (.int .i64) (.pair (.int .i64) (.int .i64)))))) v0_7.1)] ?_
          rcases zI h with ⟨hb26,h⟩|⟨hb26,h⟩
          ·refine zS 4 [(3,.bp 3 0),(8,.bool v0_4.2.1),(10,.own 55000),(82,.bool true),(86,.cv (undef))] [(3,.box 27 [.int .i64 x0.1.1,.int .i64 x0.1.2.1,.sl (.sl (.int .i64)) x0.1.2.2.1,.sl (.sl (.int .i64)) x0.1.2.2.2,.sl (.sl (.pair (.int .i64) (.pair (.int .i64) (.pair (.int .i64) (.int .i64))))) x0.2.1,.sl (.sl (.int .i64)) x0.2.2]),(55000,.arr 68 (.pair (.int .i64) (.pair (.int .i64) (.pair (.int .i64) (.pair (.int .i64) (.pair (.int .i64) (.int .i64)))))) v0_5.1)] ?_
           refine zB [(3,.bp 3 0),(8,.bool v0_4.2.1),(10,.own 55000),(87,.bool true)] [(3,.box 27 [.int .i64 x0.1.1,.int .i64 x0.1.2.1,.sl (.sl (.int .i64)) x0.1.2.2.1,.sl (.sl (.int .i64)) x0.1.2.2.2,.sl (.sl (.pair (.int .i64) (.pair (.int .i64) (.pair (.int .i64) (.int .i64))))) x0.2.1,.sl (.sl (.int .i64)) x0.2.2]),(55000,.arr 68 (.pair (.int .i64) (.pair (.int .i64) (.pair (.int .i64) (.pair (.int .i64) (.pair (.int .i64) (.int .i64)))))) v0_5.1)] ?_
           refine AW.cond (b:=true) rfl (fun _=>?_) (fun hb27=>by cases hb27)
           refine zo ?_
           refine zB [(6,.bool false)] [] ?_
           refine zr ?_
           obtain rfl:=Option.some.inj h
           exact zR [] [] []
          ·refine zS 2 [(3,.bp 3 0),(8,.bool v0_4.2.1),(10,.own 55000),(82,.bool false),(83,.own 72000),(84,.own 79000)] [(3,.box 27 [.int .i64 x0.1.1,.int .i64 x0.1.2.1,.sl (.sl (.int .i64)) x0.1.2.2.1,.sl (.sl (.int .i64)) x0.1.2.2.2,.sl (.sl (.pair (.int .i64) (.pair (.int .i64) (.pair (.int .i64) (.int .i64))))) x0.2.1,.sl (.sl (.int .i64)) x0.2.2]),(55000,.arr 68 (.pair (.int .i64) (.pair (.int .i64) (.pair (.int .i64) (.pair (.int .i64) (.pair (.int .i64) (.int .i64)))))) v0_5.1),(72000,.arr 68 (.pair (.int .i64) (.pair (.int .i64) (.pair (.int .i64) (.pair (.int .i64) (.pair (.int .i64) (.int .i64)))))) v0_6.1),(79000,.arr 68 (.pair (.int .i64) (.pair (.int .i64) (.pair (.int .i64) (.pair (.int .i64) (.pair (.int .i64) (.int .i64)))))) v0_7.1)] ?_
           obtain ⟨v0_8,hv28,h⟩:=Option.bind_eq_some_iff.1 h
           refine zG [72000,79000] [] (hc_linealref02_Same v0_6.1 v0_7.1 hv28) [(3,.bp 3 0),(8,.bool v0_4.2.1),(10,.own 55000),(82,.bool false),(85,.bool v0_8)] [(3,.box 27 [.int .i64 x0.1.1,.int .i64 x0.1.2.1,.sl (.sl (.int .i64)) x0.1.2.2.1,.sl (.sl (.int .i64)) x0.1.2.2.2,.sl (.sl (.pair (.int .i64) (.pair (.int .i64) (.pair (.int .i64) (.int .i64))))) x0.2.1,.sl (.sl (.int .i64)) x0.2.2]),(55000,.arr 68 (.pair (.int .i64) (.pair (.int .i64) (.pair (.int .i64) (.pair (.int .i64) (.pair (.int .i64) (.int .i64)))))) v0_5.1)] ?_
           refine zB [(3,.bp 3 0),(8,.bool v0_4.2.1),(10,.own 55000),(87,.bool (!v0_8))] [(3,.box 27 [.int .i64 x0.1.1,.int .i64 x0.1.2.1,.sl (.sl (.int .i64)) x0.1.2.2.1,.sl (.sl (.int .i64)) x0.1.2.2.2,.sl (.sl (.pair (.int .i64) (.pair (.int .i64) (.pair (.int .i64) (.int .i64))))) x0.2.1,.sl (.sl (.int .i64)) x0.2.2]),(55000,.arr 68 (.pair (.int .i64) (.pair (.int .i64) (.pair (.int .i64) (.pair (.int .i64) (.pair (.int .i64) (.int .i64)))))) v0_5.1)] ?_
           refine zQ h (fun hb29 h=>?_) (fun hb29 h=>?_)
           ·refine zo ?_
            refine zB [(6,.bool false)] [] ?_
            refine zr ?_
            obtain rfl:=Option.some.inj h
            exact zR [] [] []
           ·refine zk ?_
            refine AW.have1 (fun _:Unit=>lineallaw08_CodeBegins_k1=some r) (fun _=>⟨fr [],hpGet [],gt⟩) (fun _ h=>?_) (fun hk_lineallaw08_CodeBegins_k1=>?_)
            ·as_aux_lemma =>
              unfold lineallaw08_CodeBegins_k1 at h
              refine zo ?_
              obtain ⟨v0_10,hv30,h⟩:=Option.bind_eq_some_iff.1 h
              refine zC [] [] (hc_lineallaw08_Sane hv30) [(166,.bool v0_10)] [] ?_
              refine zB [(6,.bool v0_10)] [] ?_
              refine AW.ret ?_
              obtain rfl:=Option.some.inj h
              exact zR [] [] []
            ·refine AW.seq ?_
             refine zo ?_
             refine zB [(3,.bp 3 0),(8,.bool v0_4.2.1),(10,.own 55000),(17,.int .i64 0)] [(3,.box 27 [.int .i64 x0.1.1,.int .i64 x0.1.2.1,.sl (.sl (.int .i64)) x0.1.2.2.1,.sl (.sl (.int .i64)) x0.1.2.2.2,.sl (.sl (.pair (.int .i64) (.pair (.int .i64) (.pair (.int .i64) (.int .i64))))) x0.2.1,.sl (.sl (.int .i64)) x0.2.2]),(55000,.arr 68 (.pair (.int .i64) (.pair (.int .i64) (.pair (.int .i64) (.pair (.int .i64) (.pair (.int .i64) (.int .i64)))))) v0_5.1)] ?_
             refine AW.block ?_
             obtain ⟨rv35,hw31,ho32⟩:=Option.bind_eq_some_iff.1 h
             refine AW.loopO (lineallaw08_CodeBegins_b1 x0 v0_5) (fun st1=>⟨fr [(3,.bp 3 0),(8,.bool st1.1),(10,.own 55000),(17,.int .i64 st1.2)],hpGet [(3,.box 27 [.int .i64 x0.1.1,.int .i64 x0.1.2.1,.sl (.sl (.int .i64)) x0.1.2.2.1,.sl (.sl (.int .i64)) x0.1.2.2.2,.sl (.sl (.pair (.int .i64) (.pair (.int .i64) (.pair (.int .i64) (.int .i64))))) x0.2.1,.sl (.sl (.int .i64)) x0.2.2]),(55000,.arr 68 (.pair (.int .i64) (.pair (.int .i64) (.pair (.int .i64) (.pair (.int .i64) (.pair (.int .i64) (.int .i64)))))) v0_5.1)],gt⟩) (v0_4.2.1,0) hw31 (zL [] [] []) ?_
             as_aux_lemma =>
              intro st1 x34 h hd33
              unfold lineallaw08_CodeBegins_b1 at h
              refine AW.seq ?_
              refine zo ?_
              refine zB [(3,.bp 3 0),(8,.bool st1.1),(10,.own 55000),(17,.int .i64 st1.2),(92,.bool (decide (st1.2<(x0.2.2.length:Int))))] [(3,.box 27 [.int .i64 x0.1.1,.int .i64 x0.1.2.1,.sl (.sl (.int .i64)) x0.1.2.2.1,.sl (.sl (.int .i64)) x0.1.2.2.2,.sl (.sl (.pair (.int .i64) (.pair (.int .i64) (.pair (.int .i64) (.int .i64))))) x0.2.1,.sl (.sl (.int .i64)) x0.2.2]),(55000,.arr 68 (.pair (.int .i64) (.pair (.int .i64) (.pair (.int .i64) (.pair (.int .i64) (.pair (.int .i64) (.int .i64)))))) v0_5.1)] ?_
              refine zQ h (fun hb36 h=>?_) (fun hb36 h=>?_)
              ·refine zk ?_
               refine AW.have1 (fun b3_2:Bool=>lineallaw08_CodeBegins_k2 st1 b3_2=some x34) (fun b3_2=>⟨fr [(3,.bp 3 0),(8,.bool b3_2),(10,.own 55000),(17,.int .i64 st1.2)],hpGet [(3,.box 27 [.int .i64 x0.1.1,.int .i64 x0.1.2.1,.sl (.sl (.int .i64)) x0.1.2.2.1,.sl (.sl (.int .i64)) x0.1.2.2.2,.sl (.sl (.pair (.int .i64) (.pair (.int .i64) (.pair (.int .i64) (.int .i64))))) x0.2.1,.sl (.sl (.int .i64)) x0.2.2]),(55000,.arr 68 (.pair (.int .i64) (.pair (.int .i64) (.pair (.int .i64) (.pair (.int .i64) (.pair (.int .i64) (.int .i64)))))) v0_5.1)],gt⟩) (fun b3_2 h=>?_) (fun hk_lineallaw08_CodeBegins_k2=>?_)
               ·as_aux_lemma =>
                 unfold lineallaw08_CodeBegins_k2 at h
                 refine AW.ops ?_
                 obtain ⟨c37,h⟩:=ck_some.1 h
                 refine zA [(3,.bp 3 0),(8,.bool b3_2),(10,.own 55000),(17,.int .i64 (st1.2+1))] [(3,.box 27 [.int .i64 x0.1.1,.int .i64 x0.1.2.1,.sl (.sl (.int .i64)) x0.1.2.2.1,.sl (.sl (.int .i64)) x0.1.2.2.2,.sl (.sl (.pair (.int .i64) (.pair (.int .i64) (.pair (.int .i64) (.int .i64))))) x0.2.1,.sl (.sl (.int .i64)) x0.2.2]),(55000,.arr 68 (.pair (.int .i64) (.pair (.int .i64) (.pair (.int .i64) (.pair (.int .i64) (.pair (.int .i64) (.int .i64)))))) v0_5.1)] ?_
                 obtain rfl:=Option.some.inj h
                 exact ⟨_,rfl,zL [] [] []⟩
               ·refine AW.seq ?_
                refine AW.block ?_
                refine zo ?_
                refine zS 2 [(3,.bp 3 0),(8,.bool st1.1),(10,.own 55000),(17,.int .i64 st1.2),(96,.own 55000),(97,.int .i64 st1.2)] [(3,.box 27 [.int .i64 x0.1.1,.int .i64 x0.1.2.1,.sl (.sl (.int .i64)) x0.1.2.2.1,.sl (.sl (.int .i64)) x0.1.2.2.2,.sl (.sl (.pair (.int .i64) (.pair (.int .i64) (.pair (.int .i64) (.int .i64))))) x0.2.1,.sl (.sl (.int .i64)) x0.2.2]),(55000,.arr 68 (.pair (.int .i64) (.pair (.int .i64) (.pair (.int .i64) (.pair (.int .i64) (.pair (.int .i64) (.int .i64)))))) v0_5.1)] ?_
                obtain ⟨v0_9,hv38,h⟩:=Option.bind_eq_some_iff.1 h
                refine zC [55000] [] (hc_history_By v0_5.1 st1.2 hv38) [(3,.bp 3 0),(8,.bool st1.1),(10,.own 55000),(17,.int .i64 st1.2),(98,.tup [.own 108000,.int .i64 v0_9.2])] [(3,.box 27 [.int .i64 x0.1.1,.int .i64 x0.1.2.1,.sl (.sl (.int .i64)) x0.1.2.2.1,.sl (.sl (.int .i64)) x0.1.2.2.2,.sl (.sl (.pair (.int .i64) (.pair (.int .i64) (.pair (.int .i64) (.int .i64))))) x0.2.1,.sl (.sl (.int .i64)) x0.2.2]),(55000,.arr 68 (.pair (.int .i64) (.pair (.int .i64) (.pair (.int .i64) (.pair (.int .i64) (.pair (.int .i64) (.int .i64)))))) v0_5.1),(108000,.arr 68 (.pair (.int .i64) (.pair (.int .i64) (.pair (.int .i64) (.pair (.int .i64) (.pair (.int .i64) (.int .i64)))))) v0_9.1)] ?_
                refine zB [(3,.bp 3 0),(8,.bool st1.1),(10,.own 55000),(17,.int .i64 st1.2),(18,.own 108000),(19,.int .i64 v0_9.2)] [(3,.box 27 [.int .i64 x0.1.1,.int .i64 x0.1.2.1,.sl (.sl (.int .i64)) x0.1.2.2.1,.sl (.sl (.int .i64)) x0.1.2.2.2,.sl (.sl (.pair (.int .i64) (.pair (.int .i64) (.pair (.int .i64) (.int .i64))))) x0.2.1,.sl (.sl (.int .i64)) x0.2.2]),(55000,.arr 68 (.pair (.int .i64) (.pair (.int .i64) (.pair (.int .i64) (.pair (.int .i64) (.pair (.int .i64) (.int .i64)))))) v0_5.1),(108000,.arr 68 (.pair (.int .i64) (.pair (.int .i64) (.pair (.int .i64) (.pair (.int .i64) (.pair (.int .i64) (.int .i64)))))) v0_9.1)] ?_
                refine AW.have2 (fun b3:Bool=>lineallaw08_CodeBegins_k3 x0 st1 v0_9 b3=some x34) (fun b3=>⟨fr [(3,.bp 3 0),(8,.bool b3),(10,.own 55000),(17,.int .i64 st1.2),(18,.own 108000),(20,.int .i64 0)],hpGet [(3,.box 27 [.int .i64 x0.1.1,.int .i64 x0.1.2.1,.sl (.sl (.int .i64)) x0.1.2.2.1,.sl (.sl (.int .i64)) x0.1.2.2.2,.sl (.sl (.pair (.int .i64) (.pair (.int .i64) (.pair (.int .i64) (.int .i64))))) x0.2.1,.sl (.sl (.int .i64)) x0.2.2]),(55000,.arr 68 (.pair (.int .i64) (.pair (.int .i64) (.pair (.int .i64) (.pair (.int .i64) (.pair (.int .i64) (.int .i64)))))) v0_5.1),(108000,.arr 68 (.pair (.int .i64) (.pair (.int .i64) (.pair (.int .i64) (.pair (.int .i64) (.pair (.int .i64) (.int .i64)))))) v0_9.1)],gt⟩) (fun b3 h=>?_) (fun hk_lineallaw08_CodeBegins_k3=>?_)
                ·as_aux_lemma =>
                  unfold lineallaw08_CodeBegins_k3 at h
                  refine AW.block ?_
                  obtain ⟨rv43,hw39,ho40⟩:=Option.bind_eq_some_iff.1 h
                  refine AW.loopO (lineallaw08_CodeBegins_b2 x0 st1 v0_9) (fun st2=>⟨fr [(3,.bp 3 0),(8,.bool st2.1),(10,.own 55000),(17,.int .i64 st1.2),(18,.own 108000),(20,.int .i64 st2.2)],hpGet [(3,.box 27 [.int .i64 x0.1.1,.int .i64 x0.1.2.1,.sl (.sl (.int .i64)) x0.1.2.2.1,.sl (.sl (.int .i64)) x0.1.2.2.2,.sl (.sl (.pair (.int .i64) (.pair (.int .i64) (.pair (.int .i64) (.int .i64))))) x0.2.1,.sl (.sl (.int .i64)) x0.2.2]),(55000,.arr 68 (.pair (.int .i64) (.pair (.int .i64) (.pair (.int .i64) (.pair (.int .i64) (.pair (.int .i64) (.int .i64)))))) v0_5.1),(108000,.arr 68 (.pair (.int .i64) (.pair (.int .i64) (.pair (.int .i64) (.pair (.int .i64) (.pair (.int .i64) (.int .i64)))))) v0_9.1)],gt⟩) (b3,0) hw39 (zL [] [] []) ?_
                  as_aux_lemma =>
                   intro st2 x42 h hd41
                   unfold lineallaw08_CodeBegins_b2 at h
                   refine AW.seq ?_
                   refine zo ?_
                   refine zB [(3,.bp 3 0),(8,.bool st2.1),(10,.own 55000),(17,.int .i64 st1.2),(18,.own 108000),(20,.int .i64 st2.2),(131,.bool (decide (st2.2<(v0_9.1.length:Int))))] [(3,.box 27 [.int .i64 x0.1.1,.int .i64 x0.1.2.1,.sl (.sl (.int .i64)) x0.1.2.2.1,.sl (.sl (.int .i64)) x0.1.2.2.2,.sl (.sl (.pair (.int .i64) (.pair (.int .i64) (.pair (.int .i64) (.int .i64))))) x0.2.1,.sl (.sl (.int .i64)) x0.2.2]),(55000,.arr 68 (.pair (.int .i64) (.pair (.int .i64) (.pair (.int .i64) (.pair (.int .i64) (.pair (.int .i64) (.int .i64)))))) v0_5.1),(108000,.arr 68 (.pair (.int .i64) (.pair (.int .i64) (.pair (.int .i64) (.pair (.int .i64) (.pair (.int .i64) (.int .i64)))))) v0_9.1)] ?_
                   refine zQ h (fun hb44 h=>?_) (fun hb44 h=>?_)
                   ·refine zk ?_
                    refine AW.seq ?_
                    refine AW.block ?_
                    refine AW.seq ?_
                    refine AW.draw tab_ok mixed_ok [] [] (by decide) (lex_fast (by kernel_rfl)) ?_
                    as_aux_lemma =>
                     obtain ⟨c46,h⟩:=ck_some.1 h
                     obtain ⟨c47,h⟩:=ck_some.1 h
                     refine adops_cut 6 (fun K' hK45=>?_)
                     try dsimp only [List.drop_succ_cons,List.drop_zero,List.take_succ_cons,List.take_zero]
                     simp only [go_sem,hb2,hb5,hb8,hb22,hb24,hb26,hb29,hb36,hb44]
                     repeat with_reducible refine zN ?_
                     refine hK45 _ ?_
                     as_aux_lemma =>
                      obtain ⟨c49,h⟩:=ck_some.1 h
                      obtain ⟨c50,h⟩:=ck_some.1 h
                      obtain ⟨c51,h⟩:=ck_some.1 h
                      obtain ⟨c52,h⟩:=ck_some.1 h
                      refine adops_cut 6 (fun K' hK48=>?_)
                      try dsimp only [List.drop_succ_cons,List.drop_zero,List.take_succ_cons,List.take_zero]
                      simp only [go_sem,hb2,hb5,hb8,hb22,hb24,hb26,hb29,hb36,hb44]
                      repeat with_reducible refine zN ?_
                      refine hK48 _ ?_
                      as_aux_lemma =>
                       refine adops_cut 3 (fun K' hK53=>?_)
                       try dsimp only [List.drop_succ_cons,List.drop_zero,List.take_succ_cons,List.take_zero]
                       simp only [go_sem,hb2,hb5,hb8,hb22,hb24,hb26,hb29,hb36,hb44]
                       repeat with_reducible refine zN ?_
                       refine hK53 _ ?_
                       as_aux_lemma =>
                        rcases zI h with ⟨hb54,h⟩|⟨hb54,h⟩
                        ·simp only [hb54]
                         as_aux_lemma =>
                          refine adops_cut 4 (fun K' hK55=>?_)
                          try dsimp only [List.drop_succ_cons,List.drop_zero,List.take_succ_cons,List.take_zero]
                          simp only [go_sem,hb2,hb5,hb8,hb22,hb24,hb26,hb29,hb36,hb44,hb54]
                          repeat with_reducible refine zN ?_
                          refine hK55 _ ?_
                          as_aux_lemma =>
                           refine adops_cut 4 (fun K' hK56=>?_)
                           try dsimp only [List.drop_succ_cons,List.drop_zero,List.take_succ_cons,List.take_zero]
                           simp only [go_sem,hb2,hb5,hb8,hb22,hb24,hb26,hb29,hb36,hb44,hb54]
                           repeat with_reducible refine zN ?_
                           refine hK56 _ ?_
                           as_aux_lemma =>
                            refine adops_cut 4 (fun K' hK57=>?_)
                            try dsimp only [List.drop_succ_cons,List.drop_zero,List.take_succ_cons,List.take_zero]
                            simp only [go_sem,hb2,hb5,hb8,hb22,hb24,hb26,hb29,hb36,hb44,hb54]
                            repeat with_reducible refine zN ?_
                            refine hK57 _ ?_
                            as_aux_lemma =>
                             refine adops_cut 4 (fun K' hK58=>?_)
                             try dsimp only [List.drop_succ_cons,List.drop_zero,List.take_succ_cons,List.take_zero]
                             simp only [go_sem,hb2,hb5,hb8,hb22,hb24,hb26,hb29,hb36,hb44,hb54]
                             repeat with_reducible refine zN ?_
                             refine hK58 _ ?_
                             as_aux_lemma =>
                              refine adops_cut 1 (fun K' hK59=>?_)
                              try dsimp only [List.drop_succ_cons,List.drop_zero,List.take_succ_cons,List.take_zero]
                              simp only [go_sem,hb2,hb5,hb8,hb22,hb24,hb26,hb29,hb36,hb44,hb54]
                              repeat with_reducible refine zN ?_
                              refine hK59 _ ?_
                              refine adops_nil ?_
                              refine athen_n ?_
                              refine zV [(3,.bp 3 0),(8,.bool st2.1),(10,.own 55000),(17,.int .i64 st1.2),(18,.own 108000),(20,.int .i64 st2.2),(165,.bool true)] [(3,.box 27 [.int .i64 x0.1.1,.int .i64 x0.1.2.1,.sl (.sl (.int .i64)) x0.1.2.2.1,.sl (.sl (.int .i64)) x0.1.2.2.2,.sl (.sl (.pair (.int .i64) (.pair (.int .i64) (.pair (.int .i64) (.int .i64))))) x0.2.1,.sl (.sl (.int .i64)) x0.2.2]),(55000,.arr 68 (.pair (.int .i64) (.pair (.int .i64) (.pair (.int .i64) (.pair (.int .i64) (.pair (.int .i64) (.int .i64)))))) v0_5.1),(108000,.arr 68 (.pair (.int .i64) (.pair (.int .i64) (.pair (.int .i64) (.pair (.int .i64) (.pair (.int .i64) (.int .i64)))))) v0_9.1)] gt ?_
                              as_aux_lemma =>
                               refine AW.cond (b:=true) rfl (fun _=>?_) (fun hb60=>by cases hb60)
                               refine zo ?_
                               refine zB [(6,.bool false)] [] ?_
                               refine AW.ret ?_
                               refine ablock_r ?_
                               refine athen_r ?_
                               obtain rfl:=Option.some.inj h
                               try rw [← hd41 _ rfl] at ho40
                               have h:=ho40
                               try simp only at h
                               refine athen_r ?_
                               refine ablock_r ?_
                               refine ablock_r ?_
                               refine athen_r ?_
                               obtain rfl:=Option.some.inj h
                               try rw [← hd33 _ rfl] at ho32
                               have h:=ho32
                               try simp only at h
                               refine athen_r ?_
                               refine ablock_r ?_
                               refine athen_r ?_
                               obtain rfl:=Option.some.inj h
                               exact zR [] [] []
                        ·simp only [hb54]
                         as_aux_lemma =>
                          obtain ⟨c62,h⟩:=ck_some.1 h
                          obtain ⟨c63,h⟩:=ck_some.1 h
                          refine adops_cut 6 (fun K' hK61=>?_)
                          try dsimp only [List.drop_succ_cons,List.drop_zero,List.take_succ_cons,List.take_zero]
                          simp only [go_sem,hb2,hb5,hb8,hb22,hb24,hb26,hb29,hb36,hb44,hb54]
                          repeat with_reducible refine zN ?_
                          refine hK61 _ ?_
                          as_aux_lemma =>
                           refine adops_cut 1 (fun K' hK64=>?_)
                           try dsimp only [List.drop_succ_cons,List.drop_zero,List.take_succ_cons,List.take_zero]
                           simp only [go_sem,hb2,hb5,hb8,hb22,hb24,hb26,hb29,hb36,hb44,hb54]
                           repeat with_reducible refine zN ?_
                           refine hK64 _ ?_
                           as_aux_lemma =>
                            rcases zI h with ⟨hb65,h⟩|⟨hb65,h⟩
                            ·simp only [hb65]
                             as_aux_lemma =>
                              refine adops_cut 2 (fun K' hK66=>?_)
                              try dsimp only [List.drop_succ_cons,List.drop_zero,List.take_succ_cons,List.take_zero]
                              simp only [go_sem,hb2,hb5,hb8,hb22,hb24,hb26,hb29,hb36,hb44,hb54,hb65]
                              repeat with_reducible refine zN ?_
                              refine hK66 _ ?_
                              as_aux_lemma =>
                               rcases zI h with ⟨hb67,h⟩|⟨hb67,h⟩
                               ·simp only [hb67]
                                as_aux_lemma =>
                                 refine adops_cut 4 (fun K' hK68=>?_)
                                 try dsimp only [List.drop_succ_cons,List.drop_zero,List.take_succ_cons,List.take_zero]
                                 simp only [go_sem,hb2,hb5,hb8,hb22,hb24,hb26,hb29,hb36,hb44,hb54,hb65,hb67]
                                 repeat with_reducible refine zN ?_
                                 refine hK68 _ ?_
                                 as_aux_lemma =>
                                  refine adops_cut 4 (fun K' hK69=>?_)
                                  try dsimp only [List.drop_succ_cons,List.drop_zero,List.take_succ_cons,List.take_zero]
                                  simp only [go_sem,hb2,hb5,hb8,hb22,hb24,hb26,hb29,hb36,hb44,hb54,hb65,hb67]
                                  repeat with_reducible refine zN ?_
                                  refine hK69 _ ?_
                                  refine adops_nil ?_
                                  refine athen_n ?_
                                  refine zV [(3,.bp 3 0),(8,.bool true),(10,.own 55000),(17,.int .i64 st1.2),(18,.own 108000),(20,.int .i64 st2.2),(165,.bool true)] [(3,.box 27 [.int .i64 x0.1.1,.int .i64 x0.1.2.1,.sl (.sl (.int .i64)) x0.1.2.2.1,.sl (.sl (.int .i64)) x0.1.2.2.2,.sl (.sl (.pair (.int .i64) (.pair (.int .i64) (.pair (.int .i64) (.int .i64))))) x0.2.1,.sl (.sl (.int .i64)) x0.2.2]),(55000,.arr 68 (.pair (.int .i64) (.pair (.int .i64) (.pair (.int .i64) (.pair (.int .i64) (.pair (.int .i64) (.int .i64)))))) v0_5.1),(108000,.arr 68 (.pair (.int .i64) (.pair (.int .i64) (.pair (.int .i64) (.pair (.int .i64) (.pair (.int .i64) (.int .i64)))))) v0_9.1)] gt ?_
                                  as_aux_lemma =>
                                   refine AW.cond (b:=true) rfl (fun _=>?_) (fun hb70=>by cases hb70)
                                   refine zo ?_
                                   refine zB [(6,.bool false)] [] ?_
                                   refine AW.ret ?_
                                   refine ablock_r ?_
                                   refine athen_r ?_
                                   obtain rfl:=Option.some.inj h
                                   try rw [← hd41 _ rfl] at ho40
                                   have h:=ho40
                                   try simp only at h
                                   refine athen_r ?_
                                   refine ablock_r ?_
                                   refine ablock_r ?_
                                   refine athen_r ?_
                                   obtain rfl:=Option.some.inj h
                                   try rw [← hd33 _ rfl] at ho32
                                   have h:=ho32
                                   try simp only at h
                                   refine athen_r ?_
                                   refine ablock_r ?_
                                   refine athen_r ?_
                                   obtain rfl:=Option.some.inj h
                                   exact zR [] [] []
                               ·simp only [hb67]
                                as_aux_lemma =>
                                 obtain ⟨c72,h⟩:=ck_some.1 h
                                 refine adops_cut 6 (fun K' hK71=>?_)
                                 try dsimp only [List.drop_succ_cons,List.drop_zero,List.take_succ_cons,List.take_zero]
                                 simp only [go_sem,hb2,hb5,hb8,hb22,hb24,hb26,hb29,hb36,hb44,hb54,hb65,hb67]
                                 repeat with_reducible refine zN ?_
                                 refine hK71 _ ?_
                                 as_aux_lemma =>
                                  refine adops_cut 2 (fun K' hK73=>?_)
                                  try dsimp only [List.drop_succ_cons,List.drop_zero,List.take_succ_cons,List.take_zero]
                                  simp only [go_sem,hb2,hb5,hb8,hb22,hb24,hb26,hb29,hb36,hb44,hb54,hb65,hb67]
                                  repeat with_reducible refine zN ?_
                                  refine hK73 _ ?_
                                  refine adops_nil ?_
                                  refine athen_n ?_
                                  refine zV [(3,.bp 3 0),(8,.bool false),(10,.own 55000),(17,.int .i64 st1.2),(18,.own 108000),(20,.int .i64 st2.2),(165,.bool (!(decide (st2.2=((v0_9.1.length:Int) - 1)))))] [(3,.box 27 [.int .i64 x0.1.1,.int .i64 x0.1.2.1,.sl (.sl (.int .i64)) x0.1.2.2.1,.sl (.sl (.int .i64)) x0.1.2.2.2,.sl (.sl (.pair (.int .i64) (.pair (.int .i64) (.pair (.int .i64) (.int .i64))))) x0.2.1,.sl (.sl (.int .i64)) x0.2.2]),(55000,.arr 68 (.pair (.int .i64) (.pair (.int .i64) (.pair (.int .i64) (.pair (.int .i64) (.pair (.int .i64) (.int .i64)))))) v0_5.1),(108000,.arr 68 (.pair (.int .i64) (.pair (.int .i64) (.pair (.int .i64) (.pair (.int .i64) (.pair (.int .i64) (.int .i64)))))) v0_9.1)] gt ?_
                                  as_aux_lemma =>
                                   refine zQ h (fun hb74 h=>?_) (fun hb74 h=>?_)
                                   ·refine zo ?_
                                    refine zB [(6,.bool false)] [] ?_
                                    refine AW.ret ?_
                                    refine ablock_r ?_
                                    refine athen_r ?_
                                    obtain rfl:=Option.some.inj h
                                    try rw [← hd41 _ rfl] at ho40
                                    have h:=ho40
                                    try simp only at h
                                    refine athen_r ?_
                                    refine ablock_r ?_
                                    refine ablock_r ?_
                                    refine athen_r ?_
                                    obtain rfl:=Option.some.inj h
                                    try rw [← hd33 _ rfl] at ho32
                                    have h:=ho32
                                    try simp only at h
                                    refine athen_r ?_
                                    refine ablock_r ?_
                                    refine athen_r ?_
                                    obtain rfl:=Option.some.inj h
                                    exact zR [] [] []
                                   ·refine zm ?_
                                    refine athen_n ?_
                                    refine AW.ops ?_
                                    obtain ⟨c75,h⟩:=ck_some.1 h
                                    refine zA [(3,.bp 3 0),(8,.bool false),(10,.own 55000),(17,.int .i64 st1.2),(18,.own 108000),(20,.int .i64 (st2.2+1))] [(3,.box 27 [.int .i64 x0.1.1,.int .i64 x0.1.2.1,.sl (.sl (.int .i64)) x0.1.2.2.1,.sl (.sl (.int .i64)) x0.1.2.2.2,.sl (.sl (.pair (.int .i64) (.pair (.int .i64) (.pair (.int .i64) (.int .i64))))) x0.2.1,.sl (.sl (.int .i64)) x0.2.2]),(55000,.arr 68 (.pair (.int .i64) (.pair (.int .i64) (.pair (.int .i64) (.pair (.int .i64) (.pair (.int .i64) (.int .i64)))))) v0_5.1),(108000,.arr 68 (.pair (.int .i64) (.pair (.int .i64) (.pair (.int .i64) (.pair (.int .i64) (.pair (.int .i64) (.int .i64)))))) v0_9.1)] ?_
                                    obtain rfl:=Option.some.inj h
                                    exact ⟨_,rfl,zL [] [] []⟩
                            ·simp only [hb65]
                             as_aux_lemma =>
                              refine adops_cut 4 (fun K' hK76=>?_)
                              try dsimp only [List.drop_succ_cons,List.drop_zero,List.take_succ_cons,List.take_zero]
                              simp only [go_sem,hb2,hb5,hb8,hb22,hb24,hb26,hb29,hb36,hb44,hb54,hb65]
                              repeat with_reducible refine zN ?_
                              refine hK76 _ ?_
                              as_aux_lemma =>
                               refine adops_cut 4 (fun K' hK77=>?_)
                               try dsimp only [List.drop_succ_cons,List.drop_zero,List.take_succ_cons,List.take_zero]
                               simp only [go_sem,hb2,hb5,hb8,hb22,hb24,hb26,hb29,hb36,hb44,hb54,hb65]
                               repeat with_reducible refine zN ?_
                               refine hK77 _ ?_
                               as_aux_lemma =>
                                refine adops_cut 2 (fun K' hK78=>?_)
                                try dsimp only [List.drop_succ_cons,List.drop_zero,List.take_succ_cons,List.take_zero]
                                simp only [go_sem,hb2,hb5,hb8,hb22,hb24,hb26,hb29,hb36,hb44,hb54,hb65]
                                repeat with_reducible refine zN ?_
                                refine hK78 _ ?_
                                refine adops_nil ?_
                                refine athen_n ?_
                                refine zV [(3,.bp 3 0),(8,.bool st2.1),(10,.own 55000),(17,.int .i64 st1.2),(18,.own 108000),(20,.int .i64 st2.2),(165,.bool false)] [(3,.box 27 [.int .i64 x0.1.1,.int .i64 x0.1.2.1,.sl (.sl (.int .i64)) x0.1.2.2.1,.sl (.sl (.int .i64)) x0.1.2.2.2,.sl (.sl (.pair (.int .i64) (.pair (.int .i64) (.pair (.int .i64) (.int .i64))))) x0.2.1,.sl (.sl (.int .i64)) x0.2.2]),(55000,.arr 68 (.pair (.int .i64) (.pair (.int .i64) (.pair (.int .i64) (.pair (.int .i64) (.pair (.int .i64) (.int .i64)))))) v0_5.1),(108000,.arr 68 (.pair (.int .i64) (.pair (.int .i64) (.pair (.int .i64) (.pair (.int .i64) (.pair (.int .i64) (.int .i64)))))) v0_9.1)] gt ?_
                                as_aux_lemma =>
                                 refine AW.cond (b:=false) rfl (fun hb79=>by cases hb79) (fun _=>?_)
                                 refine zm ?_
                                 refine athen_n ?_
                                 refine AW.ops ?_
                                 obtain ⟨c80,h⟩:=ck_some.1 h
                                 refine zA [(3,.bp 3 0),(8,.bool st2.1),(10,.own 55000),(17,.int .i64 st1.2),(18,.own 108000),(20,.int .i64 (st2.2+1))] [(3,.box 27 [.int .i64 x0.1.1,.int .i64 x0.1.2.1,.sl (.sl (.int .i64)) x0.1.2.2.1,.sl (.sl (.int .i64)) x0.1.2.2.2,.sl (.sl (.pair (.int .i64) (.pair (.int .i64) (.pair (.int .i64) (.int .i64))))) x0.2.1,.sl (.sl (.int .i64)) x0.2.2]),(55000,.arr 68 (.pair (.int .i64) (.pair (.int .i64) (.pair (.int .i64) (.pair (.int .i64) (.pair (.int .i64) (.int .i64)))))) v0_5.1),(108000,.arr 68 (.pair (.int .i64) (.pair (.int .i64) (.pair (.int .i64) (.pair (.int .i64) (.pair (.int .i64) (.int .i64)))))) v0_9.1)] ?_
                                 obtain rfl:=Option.some.inj h
                                 exact ⟨_,rfl,zL [] [] []⟩
                   ·refine AW.exit ?_
                    refine athen_e ?_
                    obtain rfl:=Option.some.inj h
                    rw [← hd41 _ rfl] at ho40
                    have h:=ho40
                    try simp only at h
                    refine athen_e ?_
                    refine ablock_s ?_
                    refine ablock_n ?_
                    refine athen_n ?_
                    exact AW.weaken (zL [] [] []) (hk_lineallaw08_CodeBegins_k2 _ h)
                ·refine AW.seq ?_
                 refine zo ?_
                 refine zS 3 [(3,.bp 3 0),(8,.bool st1.1),(10,.own 55000),(17,.int .i64 st1.2),(18,.own 108000),(103,.bool (!(decide (v0_9.2=0))))] [(3,.box 27 [.int .i64 x0.1.1,.int .i64 x0.1.2.1,.sl (.sl (.int .i64)) x0.1.2.2.1,.sl (.sl (.int .i64)) x0.1.2.2.2,.sl (.sl (.pair (.int .i64) (.pair (.int .i64) (.pair (.int .i64) (.int .i64))))) x0.2.1,.sl (.sl (.int .i64)) x0.2.2]),(55000,.arr 68 (.pair (.int .i64) (.pair (.int .i64) (.pair (.int .i64) (.pair (.int .i64) (.pair (.int .i64) (.int .i64)))))) v0_5.1),(108000,.arr 68 (.pair (.int .i64) (.pair (.int .i64) (.pair (.int .i64) (.pair (.int .i64) (.pair (.int .i64) (.int .i64)))))) v0_9.1)] ?_
                 rcases zI h with ⟨hb81,h⟩|⟨hb81,h⟩
                 ·refine zS 4 [(3,.bp 3 0),(8,.bool st1.1),(10,.own 55000),(17,.int .i64 st1.2),(18,.own 108000),(103,.bool true),(105,.cv (undef)),(107,.cv (undef))] [(3,.box 27 [.int .i64 x0.1.1,.int .i64 x0.1.2.1,.sl (.sl (.int .i64)) x0.1.2.2.1,.sl (.sl (.int .i64)) x0.1.2.2.2,.sl (.sl (.pair (.int .i64) (.pair (.int .i64) (.pair (.int .i64) (.int .i64))))) x0.2.1,.sl (.sl (.int .i64)) x0.2.2]),(55000,.arr 68 (.pair (.int .i64) (.pair (.int .i64) (.pair (.int .i64) (.pair (.int .i64) (.pair (.int .i64) (.int .i64)))))) v0_5.1),(108000,.arr 68 (.pair (.int .i64) (.pair (.int .i64) (.pair (.int .i64) (.pair (.int .i64) (.pair (.int .i64) (.int .i64)))))) v0_9.1)] ?_
                  refine zS 4 [(3,.bp 3 0),(8,.bool st1.1),(10,.own 55000),(17,.int .i64 st1.2),(18,.own 108000),(103,.bool true),(105,.cv (undef)),(111,.cv (undef))] [(3,.box 27 [.int .i64 x0.1.1,.int .i64 x0.1.2.1,.sl (.sl (.int .i64)) x0.1.2.2.1,.sl (.sl (.int .i64)) x0.1.2.2.2,.sl (.sl (.pair (.int .i64) (.pair (.int .i64) (.pair (.int .i64) (.int .i64))))) x0.2.1,.sl (.sl (.int .i64)) x0.2.2]),(55000,.arr 68 (.pair (.int .i64) (.pair (.int .i64) (.pair (.int .i64) (.pair (.int .i64) (.pair (.int .i64) (.int .i64)))))) v0_5.1),(108000,.arr 68 (.pair (.int .i64) (.pair (.int .i64) (.pair (.int .i64) (.pair (.int .i64) (.pair (.int .i64) (.int .i64)))))) v0_9.1)] ?_
                  refine zS 5 [(3,.bp 3 0),(8,.bool st1.1),(10,.own 55000),(17,.int .i64 st1.2),(18,.own 108000),(114,.bool true),(116,.cv (undef))] [(3,.box 27 [.int .i64 x0.1.1,.int .i64 x0.1.2.1,.sl (.sl (.int .i64)) x0.1.2.2.1,.sl (.sl (.int .i64)) x0.1.2.2.2,.sl (.sl (.pair (.int .i64) (.pair (.int .i64) (.pair (.int .i64) (.int .i64))))) x0.2.1,.sl (.sl (.int .i64)) x0.2.2]),(55000,.arr 68 (.pair (.int .i64) (.pair (.int .i64) (.pair (.int .i64) (.pair (.int .i64) (.pair (.int .i64) (.int .i64)))))) v0_5.1),(108000,.arr 68 (.pair (.int .i64) (.pair (.int .i64) (.pair (.int .i64) (.pair (.int .i64) (.pair (.int .i64) (.int .i64)))))) v0_9.1)] ?_
                  refine zS 4 [(3,.bp 3 0),(8,.bool st1.1),(10,.own 55000),(17,.int .i64 st1.2),(18,.own 108000),(114,.bool true),(116,.cv (undef)),(118,.cv (undef)),(120,.cv (undef))] [(3,.box 27 [.int .i64 x0.1.1,.int .i64 x0.1.2.1,.sl (.sl (.int .i64)) x0.1.2.2.1,.sl (.sl (.int .i64)) x0.1.2.2.2,.sl (.sl (.pair (.int .i64) (.pair (.int .i64) (.pair (.int .i64) (.int .i64))))) x0.2.1,.sl (.sl (.int .i64)) x0.2.2]),(55000,.arr 68 (.pair (.int .i64) (.pair (.int .i64) (.pair (.int .i64) (.pair (.int .i64) (.pair (.int .i64) (.int .i64)))))) v0_5.1),(108000,.arr 68 (.pair (.int .i64) (.pair (.int .i64) (.pair (.int .i64) (.pair (.int .i64) (.pair (.int .i64) (.int .i64)))))) v0_9.1)] ?_
                  refine zS 4 [(3,.bp 3 0),(8,.bool st1.1),(10,.own 55000),(17,.int .i64 st1.2),(18,.own 108000),(114,.bool true),(116,.cv (undef)),(118,.cv (undef)),(124,.cv (undef))] [(3,.box 27 [.int .i64 x0.1.1,.int .i64 x0.1.2.1,.sl (.sl (.int .i64)) x0.1.2.2.1,.sl (.sl (.int .i64)) x0.1.2.2.2,.sl (.sl (.pair (.int .i64) (.pair (.int .i64) (.pair (.int .i64) (.int .i64))))) x0.2.1,.sl (.sl (.int .i64)) x0.2.2]),(55000,.arr 68 (.pair (.int .i64) (.pair (.int .i64) (.pair (.int .i64) (.pair (.int .i64) (.pair (.int .i64) (.int .i64)))))) v0_5.1),(108000,.arr 68 (.pair (.int .i64) (.pair (.int .i64) (.pair (.int .i64) (.pair (.int .i64) (.pair (.int .i64) (.int .i64)))))) v0_9.1)] ?_
                  refine zB [(3,.bp 3 0),(8,.bool st1.1),(10,.own 55000),(17,.int .i64 st1.2),(18,.own 108000),(127,.bool true)] [(3,.box 27 [.int .i64 x0.1.1,.int .i64 x0.1.2.1,.sl (.sl (.int .i64)) x0.1.2.2.1,.sl (.sl (.int .i64)) x0.1.2.2.2,.sl (.sl (.pair (.int .i64) (.pair (.int .i64) (.pair (.int .i64) (.int .i64))))) x0.2.1,.sl (.sl (.int .i64)) x0.2.2]),(55000,.arr 68 (.pair (.int .i64) (.pair (.int .i64) (.pair (.int .i64) (.pair (.int .i64) (.pair (.int .i64) (.int .i64)))))) v0_5.1),(108000,.arr 68 (.pair (.int .i64) (.pair (.int .i64) (.pair (.int .i64) (.pair (.int .i64) (.pair (.int .i64) (.int .i64)))))) v0_9.1)] ?_
                  refine AW.cond (b:=true) rfl (fun _=>?_) (fun hb82=>by cases hb82)
                  refine zo ?_
                  refine zB [(6,.bool false)] [] ?_
                  refine zr ?_
                  refine ablock_r ?_
                  refine athen_r ?_
                  obtain rfl:=Option.some.inj h
                  try rw [← hd33 _ rfl] at ho32
                  have h:=ho32
                  try simp only at h
                  refine athen_r ?_
                  refine ablock_r ?_
                  refine athen_r ?_
                  obtain rfl:=Option.some.inj h
                  exact zR [] [] []
                 ·refine zS 5 [(3,.bp 3 0),(8,.bool st1.1),(10,.own 55000),(17,.int .i64 st1.2),(18,.own 108000),(103,.bool false),(105,.int .i64 (v0_9.1.length:Int)),(107,.sl (.sl (.int .i64)) x0.2.2),(108,.int .i64 st1.2)] [(3,.box 27 [.int .i64 x0.1.1,.int .i64 x0.1.2.1,.sl (.sl (.int .i64)) x0.1.2.2.1,.sl (.sl (.int .i64)) x0.1.2.2.2,.sl (.sl (.pair (.int .i64) (.pair (.int .i64) (.pair (.int .i64) (.int .i64))))) x0.2.1,.sl (.sl (.int .i64)) x0.2.2]),(55000,.arr 68 (.pair (.int .i64) (.pair (.int .i64) (.pair (.int .i64) (.pair (.int .i64) (.pair (.int .i64) (.int .i64)))))) v0_5.1),(108000,.arr 68 (.pair (.int .i64) (.pair (.int .i64) (.pair (.int .i64) (.pair (.int .i64) (.pair (.int .i64) (.int .i64)))))) v0_9.1)] ?_
                  obtain ⟨c83,h⟩:=ck_some.1 h
                  obtain ⟨c84,h⟩:=ck_some.1 h
                  refine zS 5 [(3,.bp 3 0),(8,.bool st1.1),(10,.own 55000),(17,.int .i64 st1.2),(18,.own 108000),(113,.bool (decide (((x0.2.2.getD st1.2.toNat []).length:Int)<(v0_9.1.length:Int))))] [(3,.box 27 [.int .i64 x0.1.1,.int .i64 x0.1.2.1,.sl (.sl (.int .i64)) x0.1.2.2.1,.sl (.sl (.int .i64)) x0.1.2.2.2,.sl (.sl (.pair (.int .i64) (.pair (.int .i64) (.pair (.int .i64) (.int .i64))))) x0.2.1,.sl (.sl (.int .i64)) x0.2.2]),(55000,.arr 68 (.pair (.int .i64) (.pair (.int .i64) (.pair (.int .i64) (.pair (.int .i64) (.pair (.int .i64) (.int .i64)))))) v0_5.1),(108000,.arr 68 (.pair (.int .i64) (.pair (.int .i64) (.pair (.int .i64) (.pair (.int .i64) (.pair (.int .i64) (.int .i64)))))) v0_9.1)] ?_
                  refine zS 1 [(3,.bp 3 0),(8,.bool st1.1),(10,.own 55000),(17,.int .i64 st1.2),(18,.own 108000),(114,.bool (decide (((x0.2.2.getD st1.2.toNat []).length:Int)<(v0_9.1.length:Int))))] [(3,.box 27 [.int .i64 x0.1.1,.int .i64 x0.1.2.1,.sl (.sl (.int .i64)) x0.1.2.2.1,.sl (.sl (.int .i64)) x0.1.2.2.2,.sl (.sl (.pair (.int .i64) (.pair (.int .i64) (.pair (.int .i64) (.int .i64))))) x0.2.1,.sl (.sl (.int .i64)) x0.2.2]),(55000,.arr 68 (.pair (.int .i64) (.pair (.int .i64) (.pair (.int .i64) (.pair (.int .i64) (.pair (.int .i64) (.int .i64)))))) v0_5.1),(108000,.arr 68 (.pair (.int .i64) (.pair (.int .i64) (.pair (.int .i64) (.pair (.int .i64) (.pair (.int .i64) (.int .i64)))))) v0_9.1)] ?_
                  rcases zI h with ⟨hb85,h⟩|⟨hb85,h⟩
                  ·refine zS 4 [(3,.bp 3 0),(8,.bool st1.1),(10,.own 55000),(17,.int .i64 st1.2),(18,.own 108000),(114,.bool true),(116,.cv (undef)),(118,.cv (undef))] [(3,.box 27 [.int .i64 x0.1.1,.int .i64 x0.1.2.1,.sl (.sl (.int .i64)) x0.1.2.2.1,.sl (.sl (.int .i64)) x0.1.2.2.2,.sl (.sl (.pair (.int .i64) (.pair (.int .i64) (.pair (.int .i64) (.int .i64))))) x0.2.1,.sl (.sl (.int .i64)) x0.2.2]),(55000,.arr 68 (.pair (.int .i64) (.pair (.int .i64) (.pair (.int .i64) (.pair (.int .i64) (.pair (.int .i64) (.int .i64)))))) v0_5.1),(108000,.arr 68 (.pair (.int .i64) (.pair (.int .i64) (.pair (.int .i64) (.pair (.int .i64) (.pair (.int .i64) (.int .i64)))))) v0_9.1)] ?_
                   refine zS 4 [(3,.bp 3 0),(8,.bool st1.1),(10,.own 55000),(17,.int .i64 st1.2),(18,.own 108000),(114,.bool true),(116,.cv (undef)),(118,.cv (undef)),(122,.cv (undef))] [(3,.box 27 [.int .i64 x0.1.1,.int .i64 x0.1.2.1,.sl (.sl (.int .i64)) x0.1.2.2.1,.sl (.sl (.int .i64)) x0.1.2.2.2,.sl (.sl (.pair (.int .i64) (.pair (.int .i64) (.pair (.int .i64) (.int .i64))))) x0.2.1,.sl (.sl (.int .i64)) x0.2.2]),(55000,.arr 68 (.pair (.int .i64) (.pair (.int .i64) (.pair (.int .i64) (.pair (.int .i64) (.pair (.int .i64) (.int .i64)))))) v0_5.1),(108000,.arr 68 (.pair (.int .i64) (.pair (.int .i64) (.pair (.int .i64) (.pair (.int .i64) (.pair (.int .i64) (.int .i64)))))) v0_9.1)] ?_
                   refine zS 4 [(3,.bp 3 0),(8,.bool st1.1),(10,.own 55000),(17,.int .i64 st1.2),(18,.own 108000),(114,.bool true),(126,.cv (undef))] [(3,.box 27 [.int .i64 x0.1.1,.int .i64 x0.1.2.1,.sl (.sl (.int .i64)) x0.1.2.2.1,.sl (.sl (.int .i64)) x0.1.2.2.2,.sl (.sl (.pair (.int .i64) (.pair (.int .i64) (.pair (.int .i64) (.int .i64))))) x0.2.1,.sl (.sl (.int .i64)) x0.2.2]),(55000,.arr 68 (.pair (.int .i64) (.pair (.int .i64) (.pair (.int .i64) (.pair (.int .i64) (.pair (.int .i64) (.int .i64)))))) v0_5.1),(108000,.arr 68 (.pair (.int .i64) (.pair (.int .i64) (.pair (.int .i64) (.pair (.int .i64) (.pair (.int .i64) (.int .i64)))))) v0_9.1)] ?_
                   refine zB [(3,.bp 3 0),(8,.bool st1.1),(10,.own 55000),(17,.int .i64 st1.2),(18,.own 108000),(127,.bool true)] [(3,.box 27 [.int .i64 x0.1.1,.int .i64 x0.1.2.1,.sl (.sl (.int .i64)) x0.1.2.2.1,.sl (.sl (.int .i64)) x0.1.2.2.2,.sl (.sl (.pair (.int .i64) (.pair (.int .i64) (.pair (.int .i64) (.int .i64))))) x0.2.1,.sl (.sl (.int .i64)) x0.2.2]),(55000,.arr 68 (.pair (.int .i64) (.pair (.int .i64) (.pair (.int .i64) (.pair (.int .i64) (.pair (.int .i64) (.int .i64)))))) v0_5.1),(108000,.arr 68 (.pair (.int .i64) (.pair (.int .i64) (.pair (.int .i64) (.pair (.int .i64) (.pair (.int .i64) (.int .i64)))))) v0_9.1)] ?_
                   refine AW.cond (b:=true) rfl (fun _=>?_) (fun hb86=>by cases hb86)
                   refine zo ?_
                   refine zB [(6,.bool false)] [] ?_
                   refine zr ?_
                   refine ablock_r ?_
                   refine athen_r ?_
                   obtain rfl:=Option.some.inj h
                   try rw [← hd33 _ rfl] at ho32
                   have h:=ho32
                   try simp only at h
                   refine athen_r ?_
                   refine ablock_r ?_
                   refine athen_r ?_
                   obtain rfl:=Option.some.inj h
                   exact zR [] [] []
                  ·refine zS 2 [(3,.bp 3 0),(8,.bool st1.1),(10,.own 55000),(17,.int .i64 st1.2),(18,.own 108000),(114,.bool false),(116,.bool st1.1)] [(3,.box 27 [.int .i64 x0.1.1,.int .i64 x0.1.2.1,.sl (.sl (.int .i64)) x0.1.2.2.1,.sl (.sl (.int .i64)) x0.1.2.2.2,.sl (.sl (.pair (.int .i64) (.pair (.int .i64) (.pair (.int .i64) (.int .i64))))) x0.2.1,.sl (.sl (.int .i64)) x0.2.2]),(55000,.arr 68 (.pair (.int .i64) (.pair (.int .i64) (.pair (.int .i64) (.pair (.int .i64) (.pair (.int .i64) (.int .i64)))))) v0_5.1),(108000,.arr 68 (.pair (.int .i64) (.pair (.int .i64) (.pair (.int .i64) (.pair (.int .i64) (.pair (.int .i64) (.int .i64)))))) v0_9.1)] ?_
                   rcases zI h with ⟨hb87,h⟩|⟨hb87,h⟩
                   ·refine zS 5 [(3,.bp 3 0),(8,.bool true),(10,.own 55000),(17,.int .i64 st1.2),(18,.own 108000),(114,.bool false),(116,.bool true),(118,.int .i64 (v0_9.1.length:Int)),(120,.sl (.sl (.int .i64)) x0.2.2),(121,.int .i64 st1.2)] [(3,.box 27 [.int .i64 x0.1.1,.int .i64 x0.1.2.1,.sl (.sl (.int .i64)) x0.1.2.2.1,.sl (.sl (.int .i64)) x0.1.2.2.2,.sl (.sl (.pair (.int .i64) (.pair (.int .i64) (.pair (.int .i64) (.int .i64))))) x0.2.1,.sl (.sl (.int .i64)) x0.2.2]),(55000,.arr 68 (.pair (.int .i64) (.pair (.int .i64) (.pair (.int .i64) (.pair (.int .i64) (.pair (.int .i64) (.int .i64)))))) v0_5.1),(108000,.arr 68 (.pair (.int .i64) (.pair (.int .i64) (.pair (.int .i64) (.pair (.int .i64) (.pair (.int .i64) (.int .i64)))))) v0_9.1)] ?_
                    obtain ⟨c88,h⟩:=ck_some.1 h
                    obtain ⟨c89,h⟩:=ck_some.1 h
                    refine zS 5 [(3,.bp 3 0),(8,.bool true),(10,.own 55000),(17,.int .i64 st1.2),(18,.own 108000),(114,.bool false),(126,.bool (!(decide ((v0_9.1.length:Int)=((x0.2.2.getD st1.2.toNat []).length:Int)))))] [(3,.box 27 [.int .i64 x0.1.1,.int .i64 x0.1.2.1,.sl (.sl (.int .i64)) x0.1.2.2.1,.sl (.sl (.int .i64)) x0.1.2.2.2,.sl (.sl (.pair (.int .i64) (.pair (.int .i64) (.pair (.int .i64) (.int .i64))))) x0.2.1,.sl (.sl (.int .i64)) x0.2.2]),(55000,.arr 68 (.pair (.int .i64) (.pair (.int .i64) (.pair (.int .i64) (.pair (.int .i64) (.pair (.int .i64) (.int .i64)))))) v0_5.1),(108000,.arr 68 (.pair (.int .i64) (.pair (.int .i64) (.pair (.int .i64) (.pair (.int .i64) (.pair (.int .i64) (.int .i64)))))) v0_9.1)] ?_
                    refine zB [(3,.bp 3 0),(8,.bool true),(10,.own 55000),(17,.int .i64 st1.2),(18,.own 108000),(127,.bool (!(decide ((v0_9.1.length:Int)=((x0.2.2.getD st1.2.toNat []).length:Int)))))] [(3,.box 27 [.int .i64 x0.1.1,.int .i64 x0.1.2.1,.sl (.sl (.int .i64)) x0.1.2.2.1,.sl (.sl (.int .i64)) x0.1.2.2.2,.sl (.sl (.pair (.int .i64) (.pair (.int .i64) (.pair (.int .i64) (.int .i64))))) x0.2.1,.sl (.sl (.int .i64)) x0.2.2]),(55000,.arr 68 (.pair (.int .i64) (.pair (.int .i64) (.pair (.int .i64) (.pair (.int .i64) (.pair (.int .i64) (.int .i64)))))) v0_5.1),(108000,.arr 68 (.pair (.int .i64) (.pair (.int .i64) (.pair (.int .i64) (.pair (.int .i64) (.pair (.int .i64) (.int .i64)))))) v0_9.1)] ?_
                    refine zQ h (fun hb90 h=>?_) (fun hb90 h=>?_)
                    ·refine zo ?_
                     refine zB [(6,.bool false)] [] ?_
                     refine zr ?_
                     refine ablock_r ?_
                     refine athen_r ?_
                     obtain rfl:=Option.some.inj h
                     try rw [← hd33 _ rfl] at ho32
                     have h:=ho32
                     try simp only at h
                     refine athen_r ?_
                     refine ablock_r ?_
                     refine athen_r ?_
                     obtain rfl:=Option.some.inj h
                     exact zR [] [] []
                    ·refine zk ?_
                     refine zo ?_
                     refine zB [(3,.bp 3 0),(8,.bool true),(10,.own 55000),(17,.int .i64 st1.2),(18,.own 108000),(20,.int .i64 0)] [(3,.box 27 [.int .i64 x0.1.1,.int .i64 x0.1.2.1,.sl (.sl (.int .i64)) x0.1.2.2.1,.sl (.sl (.int .i64)) x0.1.2.2.2,.sl (.sl (.pair (.int .i64) (.pair (.int .i64) (.pair (.int .i64) (.int .i64))))) x0.2.1,.sl (.sl (.int .i64)) x0.2.2]),(55000,.arr 68 (.pair (.int .i64) (.pair (.int .i64) (.pair (.int .i64) (.pair (.int .i64) (.pair (.int .i64) (.int .i64)))))) v0_5.1),(108000,.arr 68 (.pair (.int .i64) (.pair (.int .i64) (.pair (.int .i64) (.pair (.int .i64) (.pair (.int .i64) (.int .i64)))))) v0_9.1)] ?_
                     exact AW.weaken (zL [] [] []) (hk_lineallaw08_CodeBegins_k3 _ h)
                   ·refine zS 4 [(3,.bp 3 0),(8,.bool false),(10,.own 55000),(17,.int .i64 st1.2),(18,.own 108000),(114,.bool false),(116,.bool false),(118,.cv (undef)),(120,.cv (undef))] [(3,.box 27 [.int .i64 x0.1.1,.int .i64 x0.1.2.1,.sl (.sl (.int .i64)) x0.1.2.2.1,.sl (.sl (.int .i64)) x0.1.2.2.2,.sl (.sl (.pair (.int .i64) (.pair (.int .i64) (.pair (.int .i64) (.int .i64))))) x0.2.1,.sl (.sl (.int .i64)) x0.2.2]),(55000,.arr 68 (.pair (.int .i64) (.pair (.int .i64) (.pair (.int .i64) (.pair (.int .i64) (.pair (.int .i64) (.int .i64)))))) v0_5.1),(108000,.arr 68 (.pair (.int .i64) (.pair (.int .i64) (.pair (.int .i64) (.pair (.int .i64) (.pair (.int .i64) (.int .i64)))))) v0_9.1)] ?_
                    refine zS 4 [(3,.bp 3 0),(8,.bool false),(10,.own 55000),(17,.int .i64 st1.2),(18,.own 108000),(114,.bool false),(116,.bool false),(118,.cv (undef)),(124,.cv (undef))] [(3,.box 27 [.int .i64 x0.1.1,.int .i64 x0.1.2.1,.sl (.sl (.int .i64)) x0.1.2.2.1,.sl (.sl (.int .i64)) x0.1.2.2.2,.sl (.sl (.pair (.int .i64) (.pair (.int .i64) (.pair (.int .i64) (.int .i64))))) x0.2.1,.sl (.sl (.int .i64)) x0.2.2]),(55000,.arr 68 (.pair (.int .i64) (.pair (.int .i64) (.pair (.int .i64) (.pair (.int .i64) (.pair (.int .i64) (.int .i64)))))) v0_5.1),(108000,.arr 68 (.pair (.int .i64) (.pair (.int .i64) (.pair (.int .i64) (.pair (.int .i64) (.pair (.int .i64) (.int .i64)))))) v0_9.1)] ?_
                    refine zB [(3,.bp 3 0),(8,.bool false),(10,.own 55000),(17,.int .i64 st1.2),(18,.own 108000),(127,.bool false)] [(3,.box 27 [.int .i64 x0.1.1,.int .i64 x0.1.2.1,.sl (.sl (.int .i64)) x0.1.2.2.1,.sl (.sl (.int .i64)) x0.1.2.2.2,.sl (.sl (.pair (.int .i64) (.pair (.int .i64) (.pair (.int .i64) (.int .i64))))) x0.2.1,.sl (.sl (.int .i64)) x0.2.2]),(55000,.arr 68 (.pair (.int .i64) (.pair (.int .i64) (.pair (.int .i64) (.pair (.int .i64) (.pair (.int .i64) (.int .i64)))))) v0_5.1),(108000,.arr 68 (.pair (.int .i64) (.pair (.int .i64) (.pair (.int .i64) (.pair (.int .i64) (.pair (.int .i64) (.int .i64)))))) v0_9.1)] ?_
                    refine AW.cond (b:=false) rfl (fun hb91=>by cases hb91) (fun _=>?_)
                    refine zk ?_
                    refine zo ?_
                    refine zB [(3,.bp 3 0),(8,.bool false),(10,.own 55000),(17,.int .i64 st1.2),(18,.own 108000),(20,.int .i64 0)] [(3,.box 27 [.int .i64 x0.1.1,.int .i64 x0.1.2.1,.sl (.sl (.int .i64)) x0.1.2.2.1,.sl (.sl (.int .i64)) x0.1.2.2.2,.sl (.sl (.pair (.int .i64) (.pair (.int .i64) (.pair (.int .i64) (.int .i64))))) x0.2.1,.sl (.sl (.int .i64)) x0.2.2]),(55000,.arr 68 (.pair (.int .i64) (.pair (.int .i64) (.pair (.int .i64) (.pair (.int .i64) (.pair (.int .i64) (.int .i64)))))) v0_5.1),(108000,.arr 68 (.pair (.int .i64) (.pair (.int .i64) (.pair (.int .i64) (.pair (.int .i64) (.pair (.int .i64) (.int .i64)))))) v0_9.1)] ?_
                    exact AW.weaken (zL [] [] []) (hk_lineallaw08_CodeBegins_k3 _ h)
              ·refine AW.exit ?_
               refine athen_e ?_
               obtain rfl:=Option.some.inj h
               try rw [← hd33 _ rfl] at ho32
               have h:=ho32
               try simp only at h
               refine athen_e ?_
               refine ablock_s ?_
               refine athen_n ?_
               exact AW.weaken (zL [] [] []) (hk_lineallaw08_CodeBegins_k1 () h)
end Go.Proofs.Ytenchhmcjmjlbaa
