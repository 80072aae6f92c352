import Derived.Test.YtenchhmcjmjlbaaCkp
import Derived.Test.YtenchhmcjmjlbaaShk
import Derived.Test.YtenchhmcjmjlbaaAvd
import Derived.Test.YtenchhmcjmjlbaaCec13
import Derived.Test.YtenchhmcjmjlbaaCec5
import Derived.Test.YtenchhmcjmjlbaaCec7
namespace Go.Proofs.Ytenchhmcjmjlbaa
open Go.RowKit
set_option linter.unusedSimpArgs false
set_option linter.unusedVariables false
set_option linter.constructorNameAsVariable false
set_option maxRecDepth 100000
set_option maxHeartbeats 40000000
theorem a1s (x0:(Int×Int×(List (List Int))×(List (List Int)))×(List (List (Int×Int×Int×Int)))×(List (List Int))) (steps:Int×Int) (picks:List Int) {r:Bool} (h:I3 x0 steps picks=some r):HC Try.prog 7 [] [.agg [.ii x0.1.1,.ii x0.1.2.1,.sl (.sl .i) x0.1.2.2.1,.sl (.sl .i) x0.1.2.2.2,.sl (.sl Y4) x0.2.1,.sl (.sl .i) x0.2.2],.agg [.int .u8 steps.1,.int .u8 steps.2],.sl (.int .u8) picks] [] (.bool r):=by
 unfold I3 at h
 refine zH Try.func7 [.tmp 6] 196 ?_
 refine zo ?_
 refine zB [(2,.sl (.int .u8) picks),(3,.bp 3 0),(4,.bp 4 0)] [(3,.box 27 [.ii x0.1.1,.ii x0.1.2.1,.sl (.sl .i) x0.1.2.2.1,.sl (.sl .i) x0.1.2.2.2,.sl (.sl Y4) x0.2.1,.sl (.sl .i) x0.2.2]),(4,.box 57 [.int .u8 steps.1,.int .u8 steps.2])] ?_
 refine AW.seq ?_
 refine zo ?_
 refine zS 1 [(2,.sl (.int .u8) picks),(3,.bp 3 0),(4,.bp 4 0),(25,.agg [.ii x0.1.1,.ii x0.1.2.1,.sl (.sl .i) x0.1.2.2.1,.sl (.sl .i) x0.1.2.2.2,.sl (.sl Y4) x0.2.1,.sl (.sl .i) x0.2.2])] [(3,.box 27 [.ii x0.1.1,.ii x0.1.2.1,.sl (.sl .i) x0.1.2.2.1,.sl (.sl .i) x0.1.2.2.2,.sl (.sl Y4) x0.2.1,.sl (.sl .i) x0.2.2]),(4,.box 57 [.int .u8 steps.1,.int .u8 steps.2])] ?_
 obtain ⟨v0,hv1,h⟩:=zw h
 refine zC [] [] (a26 x0 hv1) [(2,.sl (.int .u8) picks),(3,.bp 3 0),(4,.bp 4 0),(26,.bool v0)] [(3,.box 27 [.ii x0.1.1,.ii x0.1.2.1,.sl (.sl .i) x0.1.2.2.1,.sl (.sl .i) x0.1.2.2.2,.sl (.sl Y4) x0.2.1,.sl (.sl .i) x0.2.2]),(4,.box 57 [.int .u8 steps.1,.int .u8 steps.2])] ?_
 refine zS 2 [(2,.sl (.int .u8) picks),(3,.bp 3 0),(4,.bp 4 0),(28,.bool (!v0))] [(3,.box 27 [.ii x0.1.1,.ii x0.1.2.1,.sl (.sl .i) x0.1.2.2.1,.sl (.sl .i) x0.1.2.2.2,.sl (.sl Y4) x0.2.1,.sl (.sl .i) x0.2.2]),(4,.box 57 [.int .u8 steps.1,.int .u8 steps.2])] ?_
 rcases zI h with ⟨hb2,h⟩|⟨hb2,h⟩
 ·refine zB [(2,.sl (.int .u8) picks),(3,.bp 3 0),(4,.bp 4 0),(32,.bool true)] [(3,.box 27 [.ii x0.1.1,.ii x0.1.2.1,.sl (.sl .i) x0.1.2.2.1,.sl (.sl .i) x0.1.2.2.2,.sl (.sl Y4) x0.2.1,.sl (.sl .i) x0.2.2]),(4,.box 57 [.int .u8 steps.1,.int .u8 steps.2])] ?_
  refine AW.cond (b:=true) rfl (fun _=>?_) (fun hb3=>by cases hb3)
  refine zo ?_
  obtain ⟨v0_2,hv4,h⟩:=zw h
  refine zC [] [] (O3 hv4) [(33,.bool v0_2)] [] ?_
  refine zB [(6,.bool v0_2)] [] ?_
  refine zr ?_
  obtain rfl:=zj h
  exact zR [] [] []
 refine zB [(2,.sl (.int .u8) picks),(3,.bp 3 0),(4,.bp 4 0),(32,.bool (decide (60<(picks.length:Int))))] [(3,.box 27 [.ii x0.1.1,.ii x0.1.2.1,.sl (.sl .i) x0.1.2.2.1,.sl (.sl .i) x0.1.2.2.2,.sl (.sl Y4) x0.2.1,.sl (.sl .i) x0.2.2]),(4,.box 57 [.int .u8 steps.1,.int .u8 steps.2])] ?_
 refine zQ h (fun hb5 h=>?_) (fun hb5 h=>?_)
 ·refine zo ?_
  obtain ⟨v0_3,hv6,h⟩:=zw h
  refine zC [] [] (O3 hv6) [(33,.bool v0_3)] [] ?_
  refine zB [(6,.bool v0_3)] [] ?_
  refine zr ?_
  obtain rfl:=zj h
  exact zR [] [] []
 refine zk ?_
 refine AW.seq ?_
 refine AW.draw r4 p5 [] [] (by decide) (v9 (by kernel_rfl)) ?_
 as_aux_lemma =>
  obtain ⟨c8,h⟩:=b5.1 h
  obtain ⟨c9,h⟩:=b5.1 h
  refine f8 6 (fun K' hK7=>?_)
  try dsimp only [y1,y2,y3,y4]
  simp only [go_sem,hb2,hb5]
  repeat with_reducible refine zN ?_
  refine hK7 _ ?_
  as_aux_lemma =>
   obtain ⟨c11,h⟩:=b5.1 h
   obtain ⟨c12,h⟩:=b5.1 h
   refine f8 4 (fun K' hK10=>?_)
   try dsimp only [y1,y2,y3,y4]
   simp only [go_sem,hb2,hb5]
   repeat with_reducible refine zN ?_
   refine hK10 _ ?_
   refine j8 ?_
   refine g5 ?_
   refine zV [(2,.sl (.int .u8) picks),(3,.bp 3 0),(7,.ii (steps.1 % 13)),(8,.ii (steps.2 % 13))] [(3,.box 27 [.ii x0.1.1,.ii x0.1.2.1,.sl (.sl .i) x0.1.2.2.1,.sl (.sl .i) x0.1.2.2.2,.sl (.sl Y4) x0.2.1,.sl (.sl .i) x0.2.2])] gt ?_
   as_aux_lemma =>
    refine zo ?_
    refine zS 5 [(2,.sl (.int .u8) picks),(3,.bp 3 0),(44,.ii (min (steps.1 % 13) (steps.2 % 13))),(45,.ii (steps.1 % 13)),(46,.ii (steps.2 % 13))] [(3,.box 27 [.ii x0.1.1,.ii x0.1.2.1,.sl (.sl .i) x0.1.2.2.1,.sl (.sl .i) x0.1.2.2.2,.sl (.sl Y4) x0.2.1,.sl (.sl .i) x0.2.2])] ?_
    refine zB [(2,.sl (.int .u8) picks),(3,.bp 3 0),(9,.ii (min (steps.1 % 13) (steps.2 % 13))),(10,.ii (max (steps.1 % 13) (steps.2 % 13)))] [(3,.box 27 [.ii x0.1.1,.ii x0.1.2.1,.sl (.sl .i) x0.1.2.2.1,.sl (.sl .i) x0.1.2.2.2,.sl (.sl Y4) x0.2.1,.sl (.sl .i) x0.2.2])] ?_
    refine zo ?_
    refine zS 5 [(2,.sl (.int .u8) picks),(3,.bp 3 0),(9,.ii (min (steps.1 % 13) (steps.2 % 13))),(10,.ii (max (steps.1 % 13) (steps.2 % 13))),(50,.agg [.ii x0.1.1,.ii x0.1.2.1,.sl (.sl .i) x0.1.2.2.1,.sl (.sl .i) x0.1.2.2.2]),(52,.sl (.sl Y4) x0.2.1),(53,.bp 3 5)] [(3,.box 27 [.ii x0.1.1,.ii x0.1.2.1,.sl (.sl .i) x0.1.2.2.1,.sl (.sl .i) x0.1.2.2.2,.sl (.sl Y4) x0.2.1,.sl (.sl .i) x0.2.2])] ?_
    refine zS 2 [(2,.sl (.int .u8) picks),(3,.bp 3 0),(9,.ii (min (steps.1 % 13) (steps.2 % 13))),(10,.ii (max (steps.1 % 13) (steps.2 % 13))),(50,.agg [.ii x0.1.1,.ii x0.1.2.1,.sl (.sl .i) x0.1.2.2.1,.sl (.sl .i) x0.1.2.2.2]),(52,.sl (.sl Y4) x0.2.1),(54,.sl (.sl .i) x0.2.2),(55,.ii (max (steps.1 % 13) (steps.2 % 13)))] [(3,.box 27 [.ii x0.1.1,.ii x0.1.2.1,.sl (.sl .i) x0.1.2.2.1,.sl (.sl .i) x0.1.2.2.2,.sl (.sl Y4) x0.2.1,.sl (.sl .i) x0.2.2])] ?_
    obtain ⟨v0_4,hv13,h⟩:=zw h
    refine zC [] [] (a4e x0.1 x0.2.1 x0.2.2 (max (steps.1 % 13) (steps.2 % 13)) hv13) [(2,.sl (.int .u8) picks),(3,.bp 3 0),(9,.ii (min (steps.1 % 13) (steps.2 % 13))),(10,.ii (max (steps.1 % 13) (steps.2 % 13))),(56,.tup [.bool v0_4.1,.ii v0_4.2])] [(3,.box 27 [.ii x0.1.1,.ii x0.1.2.1,.sl (.sl .i) x0.1.2.2.1,.sl (.sl .i) x0.1.2.2.2,.sl (.sl Y4) x0.2.1,.sl (.sl .i) x0.2.2])] ?_
    refine zB [(2,.sl (.int .u8) picks),(3,.bp 3 0),(9,.ii (min (steps.1 % 13) (steps.2 % 13))),(10,.ii (max (steps.1 % 13) (steps.2 % 13))),(11,.bool v0_4.1),(12,.ii v0_4.2)] [(3,.box 27 [.ii x0.1.1,.ii x0.1.2.1,.sl (.sl .i) x0.1.2.2.1,.sl (.sl .i) x0.1.2.2.2,.sl (.sl Y4) x0.2.1,.sl (.sl .i) x0.2.2])] ?_
    refine zo ?_
    refine zS 5 [(2,.sl (.int .u8) picks),(3,.bp 3 0),(9,.ii (min (steps.1 % 13) (steps.2 % 13))),(10,.ii (max (steps.1 % 13) (steps.2 % 13))),(11,.bool v0_4.1),(12,.ii v0_4.2),(61,.agg [.ii x0.1.1,.ii x0.1.2.1,.sl (.sl .i) x0.1.2.2.1,.sl (.sl .i) x0.1.2.2.2]),(63,.sl (.sl Y4) x0.2.1),(64,.bp 3 5)] [(3,.box 27 [.ii x0.1.1,.ii x0.1.2.1,.sl (.sl .i) x0.1.2.2.1,.sl (.sl .i) x0.1.2.2.2,.sl (.sl Y4) x0.2.1,.sl (.sl .i) x0.2.2])] ?_
    refine zS 2 [(2,.sl (.int .u8) picks),(3,.bp 3 0),(10,.ii (max (steps.1 % 13) (steps.2 % 13))),(11,.bool v0_4.1),(12,.ii v0_4.2),(61,.agg [.ii x0.1.1,.ii x0.1.2.1,.sl (.sl .i) x0.1.2.2.1,.sl (.sl .i) x0.1.2.2.2]),(63,.sl (.sl Y4) x0.2.1),(65,.sl (.sl .i) x0.2.2),(66,.ii (min (steps.1 % 13) (steps.2 % 13)))] [(3,.box 27 [.ii x0.1.1,.ii x0.1.2.1,.sl (.sl .i) x0.1.2.2.1,.sl (.sl .i) x0.1.2.2.2,.sl (.sl Y4) x0.2.1,.sl (.sl .i) x0.2.2])] ?_
    obtain ⟨v0_5,hv14,h⟩:=zw h
    refine zC [] [] (a4e x0.1 x0.2.1 x0.2.2 (min (steps.1 % 13) (steps.2 % 13)) hv14) [(2,.sl (.int .u8) picks),(3,.bp 3 0),(10,.ii (max (steps.1 % 13) (steps.2 % 13))),(11,.bool v0_4.1),(12,.ii v0_4.2),(67,.tup [.bool v0_5.1,.ii v0_5.2])] [(3,.box 27 [.ii x0.1.1,.ii x0.1.2.1,.sl (.sl .i) x0.1.2.2.1,.sl (.sl .i) x0.1.2.2.2,.sl (.sl Y4) x0.2.1,.sl (.sl .i) x0.2.2])] ?_
    refine zB [(2,.sl (.int .u8) picks),(3,.bp 3 0),(10,.ii (max (steps.1 % 13) (steps.2 % 13))),(11,.bool v0_4.1),(12,.ii v0_4.2),(13,.bool v0_5.1),(14,.ii v0_5.2)] [(3,.box 27 [.ii x0.1.1,.ii x0.1.2.1,.sl (.sl .i) x0.1.2.2.1,.sl (.sl .i) x0.1.2.2.2,.sl (.sl Y4) x0.2.1,.sl (.sl .i) x0.2.2])] ?_
    refine zo ?_
    refine zS 5 [(2,.sl (.int .u8) picks),(3,.bp 3 0),(10,.ii (max (steps.1 % 13) (steps.2 % 13))),(11,.bool v0_4.1),(12,.ii v0_4.2),(13,.bool v0_5.1),(14,.ii v0_5.2),(72,.agg [.ii x0.1.1,.ii x0.1.2.1,.sl (.sl .i) x0.1.2.2.1,.sl (.sl .i) x0.1.2.2.2]),(74,.sl (.sl Y4) x0.2.1),(75,.bp 3 5)] [(3,.box 27 [.ii x0.1.1,.ii x0.1.2.1,.sl (.sl .i) x0.1.2.2.1,.sl (.sl .i) x0.1.2.2.2,.sl (.sl Y4) x0.2.1,.sl (.sl .i) x0.2.2])] ?_
    refine zS 2 [(2,.sl (.int .u8) picks),(3,.bp 3 0),(10,.ii (max (steps.1 % 13) (steps.2 % 13))),(11,.bool v0_4.1),(12,.ii v0_4.2),(13,.bool v0_5.1),(14,.ii v0_5.2),(72,.agg [.ii x0.1.1,.ii x0.1.2.1,.sl (.sl .i) x0.1.2.2.1,.sl (.sl .i) x0.1.2.2.2]),(74,.sl (.sl Y4) x0.2.1),(76,.sl (.sl .i) x0.2.2),(77,.ii (max (steps.1 % 13) (steps.2 % 13)))] [(3,.box 27 [.ii x0.1.1,.ii x0.1.2.1,.sl (.sl .i) x0.1.2.2.1,.sl (.sl .i) x0.1.2.2.2,.sl (.sl Y4) x0.2.1,.sl (.sl .i) x0.2.2])] ?_
    obtain ⟨v0_6,hv15,h⟩:=zw h
    refine zC [] [] (a4f x0.1 x0.2.1 x0.2.2 (max (steps.1 % 13) (steps.2 % 13)) hv15) [(2,.sl (.int .u8) picks),(3,.bp 3 0),(10,.ii (max (steps.1 % 13) (steps.2 % 13))),(11,.bool v0_4.1),(12,.ii v0_4.2),(13,.bool v0_5.1),(14,.ii v0_5.2),(78,.tup [.sl .i v0_6.1,.ii v0_6.2])] [(3,.box 27 [.ii x0.1.1,.ii x0.1.2.1,.sl (.sl .i) x0.1.2.2.1,.sl (.sl .i) x0.1.2.2.2,.sl (.sl Y4) x0.2.1,.sl (.sl .i) x0.2.2])] ?_
    refine zB [(2,.sl (.int .u8) picks),(3,.bp 3 0),(10,.ii (max (steps.1 % 13) (steps.2 % 13))),(11,.bool v0_4.1),(12,.ii v0_4.2),(13,.bool v0_5.1),(14,.ii v0_5.2),(15,.sl .i v0_6.1),(16,.ii v0_6.2)] [(3,.box 27 [.ii x0.1.1,.ii x0.1.2.1,.sl (.sl .i) x0.1.2.2.1,.sl (.sl .i) x0.1.2.2.2,.sl (.sl Y4) x0.2.1,.sl (.sl .i) x0.2.2])] ?_
    refine AW.have1 (fun b1:Bool=>m9 x0 steps picks v0_6 b1=some r) (fun b1=>⟨fr [(2,.sl (.int .u8) picks),(3,.bp 3 0),(10,.ii (max (steps.1 % 13) (steps.2 % 13))),(11,.bool b1),(15,.sl .i v0_6.1)],b6 [(3,.box 27 [.ii x0.1.1,.ii x0.1.2.1,.sl (.sl .i) x0.1.2.2.1,.sl (.sl .i) x0.1.2.2.2,.sl (.sl Y4) x0.2.1,.sl (.sl .i) x0.2.2])],gt⟩) (fun b1 h=>?_) (fun hk_lineallaw08_CodeEither_k1=>?_)
    ·as_aux_lemma =>
      unfold m9 at h
      refine AW.have1 (fun _:Unit=>s5 x0 steps picks b1=some r) (fun _=>⟨fr [(2,.sl (.int .u8) picks),(3,.bp 3 0),(10,.ii (max (steps.1 % 13) (steps.2 % 13))),(11,.bool b1)],b6 [(3,.box 27 [.ii x0.1.1,.ii x0.1.2.1,.sl (.sl .i) x0.1.2.2.1,.sl (.sl .i) x0.1.2.2.2,.sl (.sl Y4) x0.2.1,.sl (.sl .i) x0.2.2])],gt⟩) (fun _ h=>?_) (fun hk_lineallaw08_CodeEither_k2=>?_)
      ·as_aux_lemma =>
        unfold s5 at h
        refine zo ?_
        refine zS 3 [(3,.bp 3 0),(11,.bool b1),(134,.agg [.ii x0.1.1,.ii x0.1.2.1,.sl (.sl .i) x0.1.2.2.1,.sl (.sl .i) x0.1.2.2.2,.sl (.sl Y4) x0.2.1,.sl (.sl .i) x0.2.2]),(135,.sl (.int .u8) picks),(136,.ii (max (steps.1 % 13) (steps.2 % 13)))] [(3,.box 27 [.ii x0.1.1,.ii x0.1.2.1,.sl (.sl .i) x0.1.2.2.1,.sl (.sl .i) x0.1.2.2.2,.sl (.sl Y4) x0.2.1,.sl (.sl .i) x0.2.2])] ?_
        obtain ⟨v0_8,hv16,h⟩:=zw h
        refine zC [] [] (a2h x0 picks (max (steps.1 % 13) (steps.2 % 13)) hv16) [(3,.bp 3 0),(11,.bool b1),(137,.tup [.own 147000,.bool v0_8.2.1,.bool v0_8.2.2])] [(3,.box 27 [.ii x0.1.1,.ii x0.1.2.1,.sl (.sl .i) x0.1.2.2.1,.sl (.sl .i) x0.1.2.2.2,.sl (.sl Y4) x0.2.1,.sl (.sl .i) x0.2.2]),(147000,.arr 3 .i v0_8.1)] ?_
        refine zS 5 [(3,.bp 3 0),(11,.bool b1),(19,.own 147000),(139,.bool v0_8.2.1),(140,.bool v0_8.2.2)] [(3,.box 27 [.ii x0.1.1,.ii x0.1.2.1,.sl (.sl .i) x0.1.2.2.1,.sl (.sl .i) x0.1.2.2.2,.sl (.sl Y4) x0.2.1,.sl (.sl .i) x0.2.2]),(147000,.arr 3 .i v0_8.1)] ?_
        refine zB [(3,.bp 3 0),(11,.bool b1),(19,.own 147000),(21,.bool v0_8.2.2)] [(3,.box 27 [.ii x0.1.1,.ii x0.1.2.1,.sl (.sl .i) x0.1.2.2.1,.sl (.sl .i) x0.1.2.2.2,.sl (.sl Y4) x0.2.1,.sl (.sl .i) x0.2.2]),(147000,.arr 3 .i v0_8.1)] ?_
        refine AW.seq ?_
        refine zo ?_
        refine zB [(3,.bp 3 0),(11,.bool b1),(19,.own 147000),(142,.bool (!v0_8.2.2))] [(3,.box 27 [.ii x0.1.1,.ii x0.1.2.1,.sl (.sl .i) x0.1.2.2.1,.sl (.sl .i) x0.1.2.2.2,.sl (.sl Y4) x0.2.1,.sl (.sl .i) x0.2.2]),(147000,.arr 3 .i v0_8.1)] ?_
        refine zQ h (fun hb17 h=>?_) (fun hb17 h=>?_)
        ·refine zo ?_
         refine zB [(6,.bool false)] [] ?_
         refine zr ?_
         obtain rfl:=zj h
         exact zR [] [] []
        refine zk ?_
        refine zo ?_
        refine zS 5 [(3,.bp 3 0),(11,.bool b1),(19,.own 147000),(145,.agg [.ii x0.1.1,.ii x0.1.2.1,.sl (.sl .i) x0.1.2.2.1,.sl (.sl .i) x0.1.2.2.2]),(147,.sl (.sl Y4) x0.2.1),(148,.bp 3 5)] [(3,.box 27 [.ii x0.1.1,.ii x0.1.2.1,.sl (.sl .i) x0.1.2.2.1,.sl (.sl .i) x0.1.2.2.2,.sl (.sl Y4) x0.2.1,.sl (.sl .i) x0.2.2]),(147000,.arr 3 .i v0_8.1)] ?_
        refine zS 2 [(3,.bp 3 0),(11,.bool b1),(19,.own 147000),(145,.agg [.ii x0.1.1,.ii x0.1.2.1,.sl (.sl .i) x0.1.2.2.1,.sl (.sl .i) x0.1.2.2.2]),(147,.sl (.sl Y4) x0.2.1),(149,.sl (.sl .i) x0.2.2),(150,.own 147000)] [(3,.box 27 [.ii x0.1.1,.ii x0.1.2.1,.sl (.sl .i) x0.1.2.2.1,.sl (.sl .i) x0.1.2.2.2,.sl (.sl Y4) x0.2.1,.sl (.sl .i) x0.2.2]),(147000,.arr 3 .i v0_8.1)] ?_
        obtain ⟨v0_9,hv18,h⟩:=zw h
        refine zC [147000] [] (a3B x0.1 x0.2.1 x0.2.2 v0_8.1 hv18) [(3,.bp 3 0),(11,.bool b1),(19,.own 147000),(151,.tup [.bool v0_9.1,.ii v0_9.2])] [(3,.box 27 [.ii x0.1.1,.ii x0.1.2.1,.sl (.sl .i) x0.1.2.2.1,.sl (.sl .i) x0.1.2.2.2,.sl (.sl Y4) x0.2.1,.sl (.sl .i) x0.2.2]),(147000,.arr 3 .i v0_8.1)] ?_
        refine zB [(3,.bp 3 0),(11,.bool b1),(12,.ii v0_9.2),(19,.own 147000),(22,.bool v0_9.1)] [(3,.box 27 [.ii x0.1.1,.ii x0.1.2.1,.sl (.sl .i) x0.1.2.2.1,.sl (.sl .i) x0.1.2.2.2,.sl (.sl Y4) x0.2.1,.sl (.sl .i) x0.2.2]),(147000,.arr 3 .i v0_8.1)] ?_
        refine zo ?_
        refine zS 5 [(3,.bp 3 0),(11,.bool b1),(12,.ii v0_9.2),(22,.bool v0_9.1),(156,.sl (.sl Y4) x0.2.1),(158,.sl (.sl .i) x0.2.2),(159,.own 147000)] [(3,.box 27 [.ii x0.1.1,.ii x0.1.2.1,.sl (.sl .i) x0.1.2.2.1,.sl (.sl .i) x0.1.2.2.2,.sl (.sl Y4) x0.2.1,.sl (.sl .i) x0.2.2]),(147000,.arr 3 .i v0_8.1)] ?_
        obtain ⟨v0_10,hv19,h⟩:=zw h
        refine zC [147000] [] (a6m x0.2.1 x0.2.2 v0_8.1 hv19) [(3,.bp 3 0),(11,.bool b1),(12,.ii v0_9.2),(22,.bool v0_9.1),(160,.tup [.own 170000,.ii v0_10.2])] [(3,.box 27 [.ii x0.1.1,.ii x0.1.2.1,.sl (.sl .i) x0.1.2.2.1,.sl (.sl .i) x0.1.2.2.2,.sl (.sl Y4) x0.2.1,.sl (.sl .i) x0.2.2]),(170000,.arr 68 Y0 v0_10.1)] ?_
        refine zB [(3,.bp 3 0),(11,.bool b1),(12,.ii v0_9.2),(14,.ii v0_10.2),(22,.bool v0_9.1),(23,.own 170000)] [(3,.box 27 [.ii x0.1.1,.ii x0.1.2.1,.sl (.sl .i) x0.1.2.2.1,.sl (.sl .i) x0.1.2.2.2,.sl (.sl Y4) x0.2.1,.sl (.sl .i) x0.2.2]),(170000,.arr 68 Y0 v0_10.1)] ?_
        refine AW.seq ?_
        refine zo ?_
        refine zS 3 [(3,.bp 3 0),(11,.bool b1),(14,.ii v0_10.2),(22,.bool v0_9.1),(23,.own 170000),(165,.bool (!(decide (v0_9.2=0))))] [(3,.box 27 [.ii x0.1.1,.ii x0.1.2.1,.sl (.sl .i) x0.1.2.2.1,.sl (.sl .i) x0.1.2.2.2,.sl (.sl Y4) x0.2.1,.sl (.sl .i) x0.2.2]),(170000,.arr 68 Y0 v0_10.1)] ?_
        rcases zI h with ⟨hb20,h⟩|⟨hb20,h⟩
        ·refine zB [(3,.bp 3 0),(11,.bool b1),(22,.bool v0_9.1),(23,.own 170000),(168,.bool true)] [(3,.box 27 [.ii x0.1.1,.ii x0.1.2.1,.sl (.sl .i) x0.1.2.2.1,.sl (.sl .i) x0.1.2.2.2,.sl (.sl Y4) x0.2.1,.sl (.sl .i) x0.2.2]),(170000,.arr 68 Y0 v0_10.1)] ?_
         refine AW.cond (b:=true) rfl (fun _=>?_) (fun hb21=>by cases hb21)
         refine zo ?_
         refine zB [(6,.bool false)] [] ?_
         refine zr ?_
         obtain rfl:=zj h
         exact zR [] [] []
        refine zB [(3,.bp 3 0),(11,.bool b1),(22,.bool v0_9.1),(23,.own 170000),(168,.bool (!(decide (v0_10.2=0))))] [(3,.box 27 [.ii x0.1.1,.ii x0.1.2.1,.sl (.sl .i) x0.1.2.2.1,.sl (.sl .i) x0.1.2.2.2,.sl (.sl Y4) x0.2.1,.sl (.sl .i) x0.2.2]),(170000,.arr 68 Y0 v0_10.1)] ?_
        refine zQ h (fun hb22 h=>?_) (fun hb22 h=>?_)
        ·refine zo ?_
         refine zB [(6,.bool false)] [] ?_
         refine zr ?_
         obtain rfl:=zj h
         exact zR [] [] []
        refine zk ?_
        refine zo ?_
        refine zS 4 [(11,.bool b1),(22,.bool v0_9.1),(172,.own 172),(173,.own 170000)] [(172,.arr 24 Y3 [x0.1]),(170000,.arr 68 Y0 v0_10.1)] ?_
        obtain ⟨v0_11,hv23,h⟩:=zw h
        refine zC [172,170000] [] (a1E [x0.1] v0_10.1 hv23) [(11,.bool b1),(22,.bool v0_9.1),(174,.tup [.bool v0_11.1,.ii v0_11.2])] [] ?_
        refine zB [(11,.bool b1),(14,.ii v0_11.2),(22,.bool v0_9.1),(24,.bool v0_11.1)] [] ?_
        refine zo ?_
        refine zS 3 [(11,.bool b1),(22,.bool v0_9.1),(24,.bool v0_11.1),(179,.bool (decide (v0_11.2=0)))] [] ?_
        rcases zI h with ⟨hb24,h⟩|⟨hb24,h⟩
        ·refine zS 5 [(11,.bool b1),(22,.bool v0_9.1),(184,.bool ((v0_9.1==(!v0_11.1)) != false))] [] ?_
         refine zS 1 [(11,.bool b1),(22,.bool v0_9.1),(185,.bool ((v0_9.1==(!v0_11.1)) != false))] [] ?_
         rcases zI h with ⟨hb25,h⟩|⟨hb25,h⟩
         ·refine zS 3 [(22,.bool v0_9.1),(185,.bool true),(188,.bool (!b1))] [] ?_
          rcases zI h with ⟨hb26,h⟩|⟨hb26,h⟩
          ·refine zS 5 [(193,.bool true)] [] ?_
           obtain ⟨v0_12,hv27,h⟩:=zw h
           refine zG [] [] (O3 hv27) [(193,.bool true),(194,.bool v0_12)] [] ?_
           refine zB [(6,.bool v0_12)] [] ?_
           refine AW.ret ?_
           obtain rfl:=zj h
           exact zR [] [] []
          refine zS 5 [(193,.bool (!v0_9.1))] [] ?_
          rcases zI h with ⟨hb28,h⟩|⟨hb28,h⟩
          ·refine zT [(193,.bool true)] [] gt ?_
           obtain ⟨v0_13,hv29,h⟩:=zw h
           refine zG [] [] (O3 hv29) [(193,.bool true),(194,.bool v0_13)] [] ?_
           refine zB [(6,.bool v0_13)] [] ?_
           refine AW.ret ?_
           obtain rfl:=zj h
           exact zR [] [] []
          refine zB [(6,.bool false)] [] ?_
          refine AW.ret ?_
          obtain rfl:=zj h
          exact zR [] [] []
         refine zS 4 [(185,.bool false),(188,.cv (undef)),(189,.cv (undef))] [] ?_
         refine zS 5 [(193,.bool false),(194,.cv (undef))] [] ?_
         refine zB [(6,.bool false)] [] ?_
         refine AW.ret ?_
         obtain rfl:=zj h
         exact zR [] [] []
        refine zS 4 [(11,.bool b1),(22,.bool v0_9.1),(179,.bool false),(183,.cv (undef))] [] ?_
        refine zS 5 [(22,.bool v0_9.1),(185,.bool false),(188,.cv (undef))] [] ?_
        refine zS 5 [(193,.bool false)] [] ?_
        refine zB [(6,.bool false)] [] ?_
        refine AW.ret ?_
        obtain rfl:=zj h
        exact zR [] [] []
      refine AW.seq ?_
      refine zo ?_
      refine zB [(2,.sl (.int .u8) picks),(3,.bp 3 0),(10,.ii (max (steps.1 % 13) (steps.2 % 13))),(11,.bool b1),(15,.sl .i v0_6.1),(109,.bool (!b1))] [(3,.box 27 [.ii x0.1.1,.ii x0.1.2.1,.sl (.sl .i) x0.1.2.2.1,.sl (.sl .i) x0.1.2.2.2,.sl (.sl Y4) x0.2.1,.sl (.sl .i) x0.2.2])] ?_
      refine zQ h (fun hb30 h=>?_) (fun hb30 h=>?_)
      ·refine zo ?_
       refine zS 5 [(2,.sl (.int .u8) picks),(3,.bp 3 0),(10,.ii (max (steps.1 % 13) (steps.2 % 13))),(11,.bool b1),(15,.sl .i v0_6.1),(112,.agg [.ii x0.1.1,.ii x0.1.2.1,.sl (.sl .i) x0.1.2.2.1,.sl (.sl .i) x0.1.2.2.2]),(114,.sl (.sl Y4) x0.2.1),(115,.bp 3 5)] [(3,.box 27 [.ii x0.1.1,.ii x0.1.2.1,.sl (.sl .i) x0.1.2.2.1,.sl (.sl .i) x0.1.2.2.2,.sl (.sl Y4) x0.2.1,.sl (.sl .i) x0.2.2])] ?_
       refine zS 2 [(2,.sl (.int .u8) picks),(3,.bp 3 0),(10,.ii (max (steps.1 % 13) (steps.2 % 13))),(11,.bool b1),(15,.sl .i v0_6.1),(112,.agg [.ii x0.1.1,.ii x0.1.2.1,.sl (.sl .i) x0.1.2.2.1,.sl (.sl .i) x0.1.2.2.2]),(114,.sl (.sl Y4) x0.2.1),(116,.sl (.sl .i) x0.2.2),(117,.sl .i v0_6.1)] [(3,.box 27 [.ii x0.1.1,.ii x0.1.2.1,.sl (.sl .i) x0.1.2.2.1,.sl (.sl .i) x0.1.2.2.2,.sl (.sl Y4) x0.2.1,.sl (.sl .i) x0.2.2])] ?_
       obtain ⟨v0_7,hv31,h⟩:=zw h
       refine zC [] [] (a3B x0.1 x0.2.1 x0.2.2 v0_6.1 hv31) [(2,.sl (.int .u8) picks),(3,.bp 3 0),(10,.ii (max (steps.1 % 13) (steps.2 % 13))),(11,.bool b1),(15,.sl .i v0_6.1),(118,.tup [.bool v0_7.1,.ii v0_7.2])] [(3,.box 27 [.ii x0.1.1,.ii x0.1.2.1,.sl (.sl .i) x0.1.2.2.1,.sl (.sl .i) x0.1.2.2.2,.sl (.sl Y4) x0.2.1,.sl (.sl .i) x0.2.2])] ?_
       refine zB [(2,.sl (.int .u8) picks),(3,.bp 3 0),(10,.ii (max (steps.1 % 13) (steps.2 % 13))),(11,.bool b1),(15,.sl .i v0_6.1),(17,.bool v0_7.1),(18,.ii v0_7.2)] [(3,.box 27 [.ii x0.1.1,.ii x0.1.2.1,.sl (.sl .i) x0.1.2.2.1,.sl (.sl .i) x0.1.2.2.2,.sl (.sl Y4) x0.2.1,.sl (.sl .i) x0.2.2])] ?_
       refine zo ?_
       refine zS 3 [(2,.sl (.int .u8) picks),(3,.bp 3 0),(10,.ii (max (steps.1 % 13) (steps.2 % 13))),(11,.bool b1),(15,.sl .i v0_6.1),(17,.bool v0_7.1),(123,.bool (!(decide (v0_7.2=0))))] [(3,.box 27 [.ii x0.1.1,.ii x0.1.2.1,.sl (.sl .i) x0.1.2.2.1,.sl (.sl .i) x0.1.2.2.2,.sl (.sl Y4) x0.2.1,.sl (.sl .i) x0.2.2])] ?_
       rcases zI h with ⟨hb32,h⟩|⟨hb32,h⟩
       ·refine zS 5 [(2,.sl (.int .u8) picks),(3,.bp 3 0),(10,.ii (max (steps.1 % 13) (steps.2 % 13))),(11,.bool b1),(127,.bool true),(128,.cv (undef))] [(3,.box 27 [.ii x0.1.1,.ii x0.1.2.1,.sl (.sl .i) x0.1.2.2.1,.sl (.sl .i) x0.1.2.2.2,.sl (.sl Y4) x0.2.1,.sl (.sl .i) x0.2.2])] ?_
        refine zB [(2,.sl (.int .u8) picks),(3,.bp 3 0),(10,.ii (max (steps.1 % 13) (steps.2 % 13))),(11,.bool b1),(132,.bool true)] [(3,.box 27 [.ii x0.1.1,.ii x0.1.2.1,.sl (.sl .i) x0.1.2.2.1,.sl (.sl .i) x0.1.2.2.2,.sl (.sl Y4) x0.2.1,.sl (.sl .i) x0.2.2])] ?_
        refine AW.cond (b:=true) rfl (fun _=>?_) (fun hb33=>by cases hb33)
        refine zo ?_
        refine zB [(6,.bool false)] [] ?_
        refine zr ?_
        obtain rfl:=zj h
        exact zR [] [] []
       refine zS 4 [(2,.sl (.int .u8) picks),(3,.bp 3 0),(10,.ii (max (steps.1 % 13) (steps.2 % 13))),(11,.bool b1),(15,.sl .i v0_6.1),(127,.bool (!v0_7.1))] [(3,.box 27 [.ii x0.1.1,.ii x0.1.2.1,.sl (.sl .i) x0.1.2.2.1,.sl (.sl .i) x0.1.2.2.2,.sl (.sl Y4) x0.2.1,.sl (.sl .i) x0.2.2])] ?_
       rcases zI h with ⟨hb34,h⟩|⟨hb34,h⟩
       ·refine zS 4 [(2,.sl (.int .u8) picks),(3,.bp 3 0),(10,.ii (max (steps.1 % 13) (steps.2 % 13))),(11,.bool b1),(127,.bool true),(131,.cv (undef))] [(3,.box 27 [.ii x0.1.1,.ii x0.1.2.1,.sl (.sl .i) x0.1.2.2.1,.sl (.sl .i) x0.1.2.2.2,.sl (.sl Y4) x0.2.1,.sl (.sl .i) x0.2.2])] ?_
        refine zB [(2,.sl (.int .u8) picks),(3,.bp 3 0),(10,.ii (max (steps.1 % 13) (steps.2 % 13))),(11,.bool b1),(132,.bool true)] [(3,.box 27 [.ii x0.1.1,.ii x0.1.2.1,.sl (.sl .i) x0.1.2.2.1,.sl (.sl .i) x0.1.2.2.2,.sl (.sl Y4) x0.2.1,.sl (.sl .i) x0.2.2])] ?_
        refine AW.cond (b:=true) rfl (fun _=>?_) (fun hb35=>by cases hb35)
        refine zo ?_
        refine zB [(6,.bool false)] [] ?_
        refine zr ?_
        obtain rfl:=zj h
        exact zR [] [] []
       refine zB [(2,.sl (.int .u8) picks),(3,.bp 3 0),(10,.ii (max (steps.1 % 13) (steps.2 % 13))),(11,.bool b1),(132,.bool (decide ((max (steps.1 % 13) (steps.2 % 13))<(v0_6.1.length:Int))))] [(3,.box 27 [.ii x0.1.1,.ii x0.1.2.1,.sl (.sl .i) x0.1.2.2.1,.sl (.sl .i) x0.1.2.2.2,.sl (.sl Y4) x0.2.1,.sl (.sl .i) x0.2.2])] ?_
       refine zQ h (fun hb36 h=>?_) (fun hb36 h=>?_)
       ·refine zo ?_
        refine zB [(6,.bool false)] [] ?_
        refine zr ?_
        obtain rfl:=zj h
        exact zR [] [] []
       refine zk ?_
       exact AW.weaken (zL [] [] []) (hk_lineallaw08_CodeEither_k2 () h)
      refine zk ?_
      exact AW.weaken (zL [] [] []) (hk_lineallaw08_CodeEither_k2 () h)
    refine AW.seq ?_
    refine zo ?_
    refine zS 3 [(2,.sl (.int .u8) picks),(3,.bp 3 0),(10,.ii (max (steps.1 % 13) (steps.2 % 13))),(11,.bool v0_4.1),(13,.bool v0_5.1),(14,.ii v0_5.2),(15,.sl .i v0_6.1),(16,.ii v0_6.2),(83,.bool (!(decide (v0_4.2=0))))] [(3,.box 27 [.ii x0.1.1,.ii x0.1.2.1,.sl (.sl .i) x0.1.2.2.1,.sl (.sl .i) x0.1.2.2.2,.sl (.sl Y4) x0.2.1,.sl (.sl .i) x0.2.2])] ?_
    rcases zI h with ⟨hb37,h⟩|⟨hb37,h⟩
    ·refine zS 5 [(2,.sl (.int .u8) picks),(3,.bp 3 0),(10,.ii (max (steps.1 % 13) (steps.2 % 13))),(11,.bool v0_4.1),(13,.bool v0_5.1),(15,.sl .i v0_6.1),(16,.ii v0_6.2),(87,.bool true),(88,.cv (undef))] [(3,.box 27 [.ii x0.1.1,.ii x0.1.2.1,.sl (.sl .i) x0.1.2.2.1,.sl (.sl .i) x0.1.2.2.2,.sl (.sl Y4) x0.2.1,.sl (.sl .i) x0.2.2])] ?_
     refine zS 5 [(2,.sl (.int .u8) picks),(3,.bp 3 0),(10,.ii (max (steps.1 % 13) (steps.2 % 13))),(11,.bool v0_4.1),(13,.bool v0_5.1),(15,.sl .i v0_6.1),(16,.ii v0_6.2),(93,.bool true)] [(3,.box 27 [.ii x0.1.1,.ii x0.1.2.1,.sl (.sl .i) x0.1.2.2.1,.sl (.sl .i) x0.1.2.2.2,.sl (.sl Y4) x0.2.1,.sl (.sl .i) x0.2.2])] ?_
     refine zS 4 [(2,.sl (.int .u8) picks),(3,.bp 3 0),(10,.ii (max (steps.1 % 13) (steps.2 % 13))),(11,.bool v0_4.1),(13,.bool v0_5.1),(15,.sl .i v0_6.1),(93,.bool true),(96,.cv (undef)),(97,.cv (undef))] [(3,.box 27 [.ii x0.1.1,.ii x0.1.2.1,.sl (.sl .i) x0.1.2.2.1,.sl (.sl .i) x0.1.2.2.2,.sl (.sl Y4) x0.2.1,.sl (.sl .i) x0.2.2])] ?_
     refine zS 5 [(2,.sl (.int .u8) picks),(3,.bp 3 0),(10,.ii (max (steps.1 % 13) (steps.2 % 13))),(11,.bool v0_4.1),(13,.bool v0_5.1),(15,.sl .i v0_6.1),(101,.bool true),(102,.cv (undef))] [(3,.box 27 [.ii x0.1.1,.ii x0.1.2.1,.sl (.sl .i) x0.1.2.2.1,.sl (.sl .i) x0.1.2.2.2,.sl (.sl Y4) x0.2.1,.sl (.sl .i) x0.2.2])] ?_
     refine zS 4 [(2,.sl (.int .u8) picks),(3,.bp 3 0),(10,.ii (max (steps.1 % 13) (steps.2 % 13))),(11,.bool v0_4.1),(15,.sl .i v0_6.1),(101,.bool true),(106,.cv (undef))] [(3,.box 27 [.ii x0.1.1,.ii x0.1.2.1,.sl (.sl .i) x0.1.2.2.1,.sl (.sl .i) x0.1.2.2.2,.sl (.sl Y4) x0.2.1,.sl (.sl .i) x0.2.2])] ?_
     refine zB [(2,.sl (.int .u8) picks),(3,.bp 3 0),(10,.ii (max (steps.1 % 13) (steps.2 % 13))),(11,.bool v0_4.1),(15,.sl .i v0_6.1),(107,.bool true)] [(3,.box 27 [.ii x0.1.1,.ii x0.1.2.1,.sl (.sl .i) x0.1.2.2.1,.sl (.sl .i) x0.1.2.2.2,.sl (.sl Y4) x0.2.1,.sl (.sl .i) x0.2.2])] ?_
     refine AW.cond (b:=true) rfl (fun _=>?_) (fun hb38=>by cases hb38)
     refine zo ?_
     refine zB [(6,.bool false)] [] ?_
     refine zr ?_
     obtain rfl:=zj h
     exact zR [] [] []
    refine zS 4 [(2,.sl (.int .u8) picks),(3,.bp 3 0),(10,.ii (max (steps.1 % 13) (steps.2 % 13))),(11,.bool v0_4.1),(13,.bool v0_5.1),(15,.sl .i v0_6.1),(16,.ii v0_6.2),(87,.bool (!(decide (v0_5.2=0))))] [(3,.box 27 [.ii x0.1.1,.ii x0.1.2.1,.sl (.sl .i) x0.1.2.2.1,.sl (.sl .i) x0.1.2.2.2,.sl (.sl Y4) x0.2.1,.sl (.sl .i) x0.2.2])] ?_
    rcases zI h with ⟨hb39,h⟩|⟨hb39,h⟩
    ·refine zS 4 [(2,.sl (.int .u8) picks),(3,.bp 3 0),(10,.ii (max (steps.1 % 13) (steps.2 % 13))),(11,.bool v0_4.1),(13,.bool v0_5.1),(15,.sl .i v0_6.1),(16,.ii v0_6.2),(87,.bool true),(91,.cv (undef))] [(3,.box 27 [.ii x0.1.1,.ii x0.1.2.1,.sl (.sl .i) x0.1.2.2.1,.sl (.sl .i) x0.1.2.2.2,.sl (.sl Y4) x0.2.1,.sl (.sl .i) x0.2.2])] ?_
     refine zS 5 [(2,.sl (.int .u8) picks),(3,.bp 3 0),(10,.ii (max (steps.1 % 13) (steps.2 % 13))),(11,.bool v0_4.1),(13,.bool v0_5.1),(15,.sl .i v0_6.1),(16,.ii v0_6.2),(93,.bool true),(96,.cv (undef))] [(3,.box 27 [.ii x0.1.1,.ii x0.1.2.1,.sl (.sl .i) x0.1.2.2.1,.sl (.sl .i) x0.1.2.2.2,.sl (.sl Y4) x0.2.1,.sl (.sl .i) x0.2.2])] ?_
     refine zS 5 [(2,.sl (.int .u8) picks),(3,.bp 3 0),(10,.ii (max (steps.1 % 13) (steps.2 % 13))),(11,.bool v0_4.1),(13,.bool v0_5.1),(15,.sl .i v0_6.1),(101,.bool true)] [(3,.box 27 [.ii x0.1.1,.ii x0.1.2.1,.sl (.sl .i) x0.1.2.2.1,.sl (.sl .i) x0.1.2.2.2,.sl (.sl Y4) x0.2.1,.sl (.sl .i) x0.2.2])] ?_
     refine zS 4 [(2,.sl (.int .u8) picks),(3,.bp 3 0),(10,.ii (max (steps.1 % 13) (steps.2 % 13))),(11,.bool v0_4.1),(15,.sl .i v0_6.1),(101,.bool true),(103,.cv (undef)),(105,.cv (undef))] [(3,.box 27 [.ii x0.1.1,.ii x0.1.2.1,.sl (.sl .i) x0.1.2.2.1,.sl (.sl .i) x0.1.2.2.2,.sl (.sl Y4) x0.2.1,.sl (.sl .i) x0.2.2])] ?_
     refine zB [(2,.sl (.int .u8) picks),(3,.bp 3 0),(10,.ii (max (steps.1 % 13) (steps.2 % 13))),(11,.bool v0_4.1),(15,.sl .i v0_6.1),(107,.bool true)] [(3,.box 27 [.ii x0.1.1,.ii x0.1.2.1,.sl (.sl .i) x0.1.2.2.1,.sl (.sl .i) x0.1.2.2.2,.sl (.sl Y4) x0.2.1,.sl (.sl .i) x0.2.2])] ?_
     refine AW.cond (b:=true) rfl (fun _=>?_) (fun hb40=>by cases hb40)
     refine zo ?_
     refine zB [(6,.bool false)] [] ?_
     refine zr ?_
     obtain rfl:=zj h
     exact zR [] [] []
    refine zS 5 [(2,.sl (.int .u8) picks),(3,.bp 3 0),(10,.ii (max (steps.1 % 13) (steps.2 % 13))),(11,.bool v0_4.1),(13,.bool v0_5.1),(15,.sl .i v0_6.1),(16,.ii v0_6.2),(92,.bool ((v0_4.1==(decide (v0_6.2=5))) != true))] [(3,.box 27 [.ii x0.1.1,.ii x0.1.2.1,.sl (.sl .i) x0.1.2.2.1,.sl (.sl .i) x0.1.2.2.2,.sl (.sl Y4) x0.2.1,.sl (.sl .i) x0.2.2])] ?_
    refine zS 1 [(2,.sl (.int .u8) picks),(3,.bp 3 0),(10,.ii (max (steps.1 % 13) (steps.2 % 13))),(11,.bool v0_4.1),(13,.bool v0_5.1),(15,.sl .i v0_6.1),(16,.ii v0_6.2),(93,.bool ((v0_4.1==(decide (v0_6.2=5))) != true))] [(3,.box 27 [.ii x0.1.1,.ii x0.1.2.1,.sl (.sl .i) x0.1.2.2.1,.sl (.sl .i) x0.1.2.2.2,.sl (.sl Y4) x0.2.1,.sl (.sl .i) x0.2.2])] ?_
    rcases zI h with ⟨hb41,h⟩|⟨hb41,h⟩
    ·refine zS 4 [(2,.sl (.int .u8) picks),(3,.bp 3 0),(10,.ii (max (steps.1 % 13) (steps.2 % 13))),(11,.bool v0_4.1),(13,.bool v0_5.1),(15,.sl .i v0_6.1),(93,.bool true),(96,.cv (undef)),(97,.cv (undef))] [(3,.box 27 [.ii x0.1.1,.ii x0.1.2.1,.sl (.sl .i) x0.1.2.2.1,.sl (.sl .i) x0.1.2.2.2,.sl (.sl Y4) x0.2.1,.sl (.sl .i) x0.2.2])] ?_
     refine zS 5 [(2,.sl (.int .u8) picks),(3,.bp 3 0),(10,.ii (max (steps.1 % 13) (steps.2 % 13))),(11,.bool v0_4.1),(13,.bool v0_5.1),(15,.sl .i v0_6.1),(101,.bool true),(102,.cv (undef))] [(3,.box 27 [.ii x0.1.1,.ii x0.1.2.1,.sl (.sl .i) x0.1.2.2.1,.sl (.sl .i) x0.1.2.2.2,.sl (.sl Y4) x0.2.1,.sl (.sl .i) x0.2.2])] ?_
     refine zS 4 [(2,.sl (.int .u8) picks),(3,.bp 3 0),(10,.ii (max (steps.1 % 13) (steps.2 % 13))),(11,.bool v0_4.1),(15,.sl .i v0_6.1),(101,.bool true),(106,.cv (undef))] [(3,.box 27 [.ii x0.1.1,.ii x0.1.2.1,.sl (.sl .i) x0.1.2.2.1,.sl (.sl .i) x0.1.2.2.2,.sl (.sl Y4) x0.2.1,.sl (.sl .i) x0.2.2])] ?_
     refine zB [(2,.sl (.int .u8) picks),(3,.bp 3 0),(10,.ii (max (steps.1 % 13) (steps.2 % 13))),(11,.bool v0_4.1),(15,.sl .i v0_6.1),(107,.bool true)] [(3,.box 27 [.ii x0.1.1,.ii x0.1.2.1,.sl (.sl .i) x0.1.2.2.1,.sl (.sl .i) x0.1.2.2.2,.sl (.sl Y4) x0.2.1,.sl (.sl .i) x0.2.2])] ?_
     refine AW.cond (b:=true) rfl (fun _=>?_) (fun hb42=>by cases hb42)
     refine zo ?_
     refine zB [(6,.bool false)] [] ?_
     refine zr ?_
     obtain rfl:=zj h
     exact zR [] [] []
    refine zS 3 [(2,.sl (.int .u8) picks),(3,.bp 3 0),(10,.ii (max (steps.1 % 13) (steps.2 % 13))),(11,.bool v0_4.1),(13,.bool v0_5.1),(15,.sl .i v0_6.1),(16,.ii v0_6.2),(93,.bool false),(96,.bool (!(decide (v0_6.2=0))))] [(3,.box 27 [.ii x0.1.1,.ii x0.1.2.1,.sl (.sl .i) x0.1.2.2.1,.sl (.sl .i) x0.1.2.2.2,.sl (.sl Y4) x0.2.1,.sl (.sl .i) x0.2.2])] ?_
    rcases zI h with ⟨hb43,h⟩|⟨hb43,h⟩
    ·refine zS 5 [(2,.sl (.int .u8) picks),(3,.bp 3 0),(10,.ii (max (steps.1 % 13) (steps.2 % 13))),(11,.bool v0_4.1),(13,.bool v0_5.1),(15,.sl .i v0_6.1),(101,.bool (!(decide (v0_6.2=5))))] [(3,.box 27 [.ii x0.1.1,.ii x0.1.2.1,.sl (.sl .i) x0.1.2.2.1,.sl (.sl .i) x0.1.2.2.2,.sl (.sl Y4) x0.2.1,.sl (.sl .i) x0.2.2])] ?_
     rcases zI h with ⟨hb44,h⟩|⟨hb44,h⟩
     ·refine zS 4 [(2,.sl (.int .u8) picks),(3,.bp 3 0),(10,.ii (max (steps.1 % 13) (steps.2 % 13))),(11,.bool v0_4.1),(15,.sl .i v0_6.1),(101,.bool true),(103,.cv (undef)),(105,.cv (undef))] [(3,.box 27 [.ii x0.1.1,.ii x0.1.2.1,.sl (.sl .i) x0.1.2.2.1,.sl (.sl .i) x0.1.2.2.2,.sl (.sl Y4) x0.2.1,.sl (.sl .i) x0.2.2])] ?_
      refine zB [(2,.sl (.int .u8) picks),(3,.bp 3 0),(10,.ii (max (steps.1 % 13) (steps.2 % 13))),(11,.bool v0_4.1),(15,.sl .i v0_6.1),(107,.bool true)] [(3,.box 27 [.ii x0.1.1,.ii x0.1.2.1,.sl (.sl .i) x0.1.2.2.1,.sl (.sl .i) x0.1.2.2.2,.sl (.sl Y4) x0.2.1,.sl (.sl .i) x0.2.2])] ?_
      refine AW.cond (b:=true) rfl (fun _=>?_) (fun hb45=>by cases hb45)
      refine zo ?_
      refine zB [(6,.bool false)] [] ?_
      refine zr ?_
      obtain rfl:=zj h
      exact zR [] [] []
     refine zS 2 [(2,.sl (.int .u8) picks),(3,.bp 3 0),(10,.ii (max (steps.1 % 13) (steps.2 % 13))),(11,.bool v0_4.1),(13,.bool v0_5.1),(15,.sl .i v0_6.1),(101,.bool false),(103,.bool v0_4.1)] [(3,.box 27 [.ii x0.1.1,.ii x0.1.2.1,.sl (.sl .i) x0.1.2.2.1,.sl (.sl .i) x0.1.2.2.2,.sl (.sl Y4) x0.2.1,.sl (.sl .i) x0.2.2])] ?_
     rcases zI h with ⟨hb46,h⟩|⟨hb46,h⟩
     ·refine zB [(2,.sl (.int .u8) picks),(3,.bp 3 0),(10,.ii (max (steps.1 % 13) (steps.2 % 13))),(11,.bool true),(15,.sl .i v0_6.1),(107,.bool (!v0_5.1))] [(3,.box 27 [.ii x0.1.1,.ii x0.1.2.1,.sl (.sl .i) x0.1.2.2.1,.sl (.sl .i) x0.1.2.2.2,.sl (.sl Y4) x0.2.1,.sl (.sl .i) x0.2.2])] ?_
      refine zQ h (fun hb47 h=>?_) (fun hb47 h=>?_)
      ·refine zo ?_
       refine zB [(6,.bool false)] [] ?_
       refine zr ?_
       obtain rfl:=zj h
       exact zR [] [] []
      refine zk ?_
      have hj:=hk_lineallaw08_CodeEither_k1 _ h
      exact AW.weaken (zL [] [] []) hj
     refine zB [(2,.sl (.int .u8) picks),(3,.bp 3 0),(10,.ii (max (steps.1 % 13) (steps.2 % 13))),(11,.bool false),(15,.sl .i v0_6.1),(107,.bool false)] [(3,.box 27 [.ii x0.1.1,.ii x0.1.2.1,.sl (.sl .i) x0.1.2.2.1,.sl (.sl .i) x0.1.2.2.2,.sl (.sl Y4) x0.2.1,.sl (.sl .i) x0.2.2])] ?_
     refine AW.cond (b:=false) rfl (fun hb48=>by cases hb48) (fun _=>?_)
     refine zk ?_
     have hj:=hk_lineallaw08_CodeEither_k1 _ h
     exact AW.weaken (zL [] [] []) hj
    refine zS 5 [(2,.sl (.int .u8) picks),(3,.bp 3 0),(10,.ii (max (steps.1 % 13) (steps.2 % 13))),(11,.bool v0_4.1),(13,.bool v0_5.1),(15,.sl .i v0_6.1),(101,.bool false)] [(3,.box 27 [.ii x0.1.1,.ii x0.1.2.1,.sl (.sl .i) x0.1.2.2.1,.sl (.sl .i) x0.1.2.2.2,.sl (.sl Y4) x0.2.1,.sl (.sl .i) x0.2.2])] ?_
    refine zS 2 [(2,.sl (.int .u8) picks),(3,.bp 3 0),(10,.ii (max (steps.1 % 13) (steps.2 % 13))),(11,.bool v0_4.1),(13,.bool v0_5.1),(15,.sl .i v0_6.1),(101,.bool false),(103,.bool v0_4.1)] [(3,.box 27 [.ii x0.1.1,.ii x0.1.2.1,.sl (.sl .i) x0.1.2.2.1,.sl (.sl .i) x0.1.2.2.2,.sl (.sl Y4) x0.2.1,.sl (.sl .i) x0.2.2])] ?_
    rcases zI h with ⟨hb49,h⟩|⟨hb49,h⟩
    ·refine zB [(2,.sl (.int .u8) picks),(3,.bp 3 0),(10,.ii (max (steps.1 % 13) (steps.2 % 13))),(11,.bool true),(15,.sl .i v0_6.1),(107,.bool (!v0_5.1))] [(3,.box 27 [.ii x0.1.1,.ii x0.1.2.1,.sl (.sl .i) x0.1.2.2.1,.sl (.sl .i) x0.1.2.2.2,.sl (.sl Y4) x0.2.1,.sl (.sl .i) x0.2.2])] ?_
     refine zQ h (fun hb50 h=>?_) (fun hb50 h=>?_)
     ·refine zo ?_
      refine zB [(6,.bool false)] [] ?_
      refine zr ?_
      obtain rfl:=zj h
      exact zR [] [] []
     refine zk ?_
     have hj:=hk_lineallaw08_CodeEither_k1 _ h
     exact AW.weaken (zL [] [] []) hj
    refine zB [(2,.sl (.int .u8) picks),(3,.bp 3 0),(10,.ii (max (steps.1 % 13) (steps.2 % 13))),(11,.bool false),(15,.sl .i v0_6.1),(107,.bool false)] [(3,.box 27 [.ii x0.1.1,.ii x0.1.2.1,.sl (.sl .i) x0.1.2.2.1,.sl (.sl .i) x0.1.2.2.2,.sl (.sl Y4) x0.2.1,.sl (.sl .i) x0.2.2])] ?_
    refine AW.cond (b:=false) rfl (fun hb51=>by cases hb51) (fun _=>?_)
    refine zk ?_
    have hj:=hk_lineallaw08_CodeEither_k1 _ h
    exact AW.weaken (zL [] [] []) hj
end Go.Proofs.Ytenchhmcjmjlbaa
