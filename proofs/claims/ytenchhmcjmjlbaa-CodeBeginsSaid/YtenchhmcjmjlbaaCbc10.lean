import Derived.Test.YtenchhmcjmjlbaaCkp
import Derived.Test.YtenchhmcjmjlbaaShk
import Derived.Test.YtenchhmcjmjlbaaCbc9
namespace Go.Proofs.Ytenchhmcjmjlbaa
open Go.RowKit
set_option linter.unusedSimpArgs false
set_option linter.unusedVariables false
set_option linter.constructorNameAsVariable false
set_option maxRecDepth 100000
set_option maxHeartbeats 40000000
theorem hc_history_apart (a:Int×Int×Int×Int×Int×Int) (b:Int×Int×Int×Int×Int×Int) {r:Bool} (h:history_apart a b=some r):HC Try.prog 177 [] [.agg [.int .i64 a.1,.int .i64 a.2.1,.int .i64 a.2.2.1,.int .i64 a.2.2.2.1,.int .i64 a.2.2.2.2.1,.int .i64 a.2.2.2.2.2],.agg [.int .i64 b.1,.int .i64 b.2.1,.int .i64 b.2.2.1,.int .i64 b.2.2.2.1,.int .i64 b.2.2.2.2.1,.int .i64 b.2.2.2.2.2]] [] (.bool r):=by
 unfold history_apart at h
 refine zH Try.func177 [.tmp 4] 49 ?_
 refine zo ?_
 refine zB [(2,.bp 2 0),(3,.bp 3 0)] [(2,.box 68 [.int .i64 a.1,.int .i64 a.2.1,.int .i64 a.2.2.1,.int .i64 a.2.2.2.1,.int .i64 a.2.2.2.2.1,.int .i64 a.2.2.2.2.2]),(3,.box 68 [.int .i64 b.1,.int .i64 b.2.1,.int .i64 b.2.2.1,.int .i64 b.2.2.2.1,.int .i64 b.2.2.2.2.1,.int .i64 b.2.2.2.2.2])] ?_
 refine AW.seq ?_
 refine zo ?_
 refine zS 5 [(2,.bp 2 0),(3,.bp 3 0),(9,.bool (decide (a.2.2.2.2.1=b.2.2.2.2.1)))] [(2,.box 68 [.int .i64 a.1,.int .i64 a.2.1,.int .i64 a.2.2.1,.int .i64 a.2.2.2.1,.int .i64 a.2.2.2.2.1,.int .i64 a.2.2.2.2.2]),(3,.box 68 [.int .i64 b.1,.int .i64 b.2.1,.int .i64 b.2.2.1,.int .i64 b.2.2.2.1,.int .i64 b.2.2.2.2.1,.int .i64 b.2.2.2.2.2])] ?_
 refine zS 1 [(2,.bp 2 0),(3,.bp 3 0),(10,.bool (decide (a.2.2.2.2.1=b.2.2.2.2.1)))] [(2,.box 68 [.int .i64 a.1,.int .i64 a.2.1,.int .i64 a.2.2.1,.int .i64 a.2.2.2.1,.int .i64 a.2.2.2.2.1,.int .i64 a.2.2.2.2.2]),(3,.box 68 [.int .i64 b.1,.int .i64 b.2.1,.int .i64 b.2.2.1,.int .i64 b.2.2.2.1,.int .i64 b.2.2.2.2.1,.int .i64 b.2.2.2.2.2])] ?_
 rcases zI h with ⟨hb1,h⟩|⟨hb1,h⟩
 ·refine zS 4 [(2,.bp 2 0),(3,.bp 3 0),(10,.bool true),(12,.cv (undef)),(14,.cv (undef))] [(2,.box 68 [.int .i64 a.1,.int .i64 a.2.1,.int .i64 a.2.2.1,.int .i64 a.2.2.2.1,.int .i64 a.2.2.2.2.1,.int .i64 a.2.2.2.2.2]),(3,.box 68 [.int .i64 b.1,.int .i64 b.2.1,.int .i64 b.2.2.1,.int .i64 b.2.2.2.1,.int .i64 b.2.2.2.2.1,.int .i64 b.2.2.2.2.2])] ?_
  refine zS 5 [(2,.bp 2 0),(3,.bp 3 0),(17,.bool true),(19,.cv (undef))] [(2,.box 68 [.int .i64 a.1,.int .i64 a.2.1,.int .i64 a.2.2.1,.int .i64 a.2.2.2.1,.int .i64 a.2.2.2.2.1,.int .i64 a.2.2.2.2.2]),(3,.box 68 [.int .i64 b.1,.int .i64 b.2.1,.int .i64 b.2.2.1,.int .i64 b.2.2.2.1,.int .i64 b.2.2.2.2.1,.int .i64 b.2.2.2.2.2])] ?_
  refine zB [(2,.bp 2 0),(3,.bp 3 0),(23,.bool true)] [(2,.box 68 [.int .i64 a.1,.int .i64 a.2.1,.int .i64 a.2.2.1,.int .i64 a.2.2.2.1,.int .i64 a.2.2.2.2.1,.int .i64 a.2.2.2.2.2]),(3,.box 68 [.int .i64 b.1,.int .i64 b.2.1,.int .i64 b.2.2.1,.int .i64 b.2.2.2.1,.int .i64 b.2.2.2.2.1,.int .i64 b.2.2.2.2.2])] ?_
  refine AW.cond (b:=true) rfl (fun _=>?_) (fun hb2=>by cases hb2)
  refine zo ?_
  refine zB [(4,.bool false)] [] ?_
  refine zr ?_
  obtain rfl:=Option.some.inj h
  exact zR [] [] []
 ·refine zS 5 [(2,.bp 2 0),(3,.bp 3 0),(10,.bool false),(15,.bool (decide (a.2.2.2.2.1=b.2.2.2.2.2)))] [(2,.box 68 [.int .i64 a.1,.int .i64 a.2.1,.int .i64 a.2.2.1,.int .i64 a.2.2.2.1,.int .i64 a.2.2.2.2.1,.int .i64 a.2.2.2.2.2]),(3,.box 68 [.int .i64 b.1,.int .i64 b.2.1,.int .i64 b.2.2.1,.int .i64 b.2.2.2.1,.int .i64 b.2.2.2.2.1,.int .i64 b.2.2.2.2.2])] ?_
  refine zS 2 [(2,.bp 2 0),(3,.bp 3 0),(17,.bool (decide (a.2.2.2.2.1=b.2.2.2.2.2)))] [(2,.box 68 [.int .i64 a.1,.int .i64 a.2.1,.int .i64 a.2.2.1,.int .i64 a.2.2.2.1,.int .i64 a.2.2.2.2.1,.int .i64 a.2.2.2.2.2]),(3,.box 68 [.int .i64 b.1,.int .i64 b.2.1,.int .i64 b.2.2.1,.int .i64 b.2.2.2.1,.int .i64 b.2.2.2.2.1,.int .i64 b.2.2.2.2.2])] ?_
  rcases zI h with ⟨hb3,h⟩|⟨hb3,h⟩
  ·refine zS 4 [(2,.bp 2 0),(3,.bp 3 0),(17,.bool true),(19,.cv (undef)),(21,.cv (undef))] [(2,.box 68 [.int .i64 a.1,.int .i64 a.2.1,.int .i64 a.2.2.1,.int .i64 a.2.2.2.1,.int .i64 a.2.2.2.2.1,.int .i64 a.2.2.2.2.2]),(3,.box 68 [.int .i64 b.1,.int .i64 b.2.1,.int .i64 b.2.2.1,.int .i64 b.2.2.2.1,.int .i64 b.2.2.2.2.1,.int .i64 b.2.2.2.2.2])] ?_
   refine zB [(2,.bp 2 0),(3,.bp 3 0),(23,.bool true)] [(2,.box 68 [.int .i64 a.1,.int .i64 a.2.1,.int .i64 a.2.2.1,.int .i64 a.2.2.2.1,.int .i64 a.2.2.2.2.1,.int .i64 a.2.2.2.2.2]),(3,.box 68 [.int .i64 b.1,.int .i64 b.2.1,.int .i64 b.2.2.1,.int .i64 b.2.2.2.1,.int .i64 b.2.2.2.2.1,.int .i64 b.2.2.2.2.2])] ?_
   refine AW.cond (b:=true) rfl (fun _=>?_) (fun hb4=>by cases hb4)
   refine zo ?_
   refine zB [(4,.bool false)] [] ?_
   refine zr ?_
   obtain rfl:=Option.some.inj h
   exact zR [] [] []
  ·refine zS 5 [(2,.bp 2 0),(3,.bp 3 0),(17,.bool false),(22,.bool (decide (a.2.2.2.2.2=b.2.2.2.2.1)))] [(2,.box 68 [.int .i64 a.1,.int .i64 a.2.1,.int .i64 a.2.2.1,.int .i64 a.2.2.2.1,.int .i64 a.2.2.2.2.1,.int .i64 a.2.2.2.2.2]),(3,.box 68 [.int .i64 b.1,.int .i64 b.2.1,.int .i64 b.2.2.1,.int .i64 b.2.2.2.1,.int .i64 b.2.2.2.2.1,.int .i64 b.2.2.2.2.2])] ?_
   refine zB [(2,.bp 2 0),(3,.bp 3 0),(23,.bool (decide (a.2.2.2.2.2=b.2.2.2.2.1)))] [(2,.box 68 [.int .i64 a.1,.int .i64 a.2.1,.int .i64 a.2.2.1,.int .i64 a.2.2.2.1,.int .i64 a.2.2.2.2.1,.int .i64 a.2.2.2.2.2]),(3,.box 68 [.int .i64 b.1,.int .i64 b.2.1,.int .i64 b.2.2.1,.int .i64 b.2.2.2.1,.int .i64 b.2.2.2.2.1,.int .i64 b.2.2.2.2.2])] ?_
   refine zQ h (fun hb5 h=>?_) (fun hb5 h=>?_)
   ·refine zo ?_
    refine zB [(4,.bool false)] [] ?_
    refine zr ?_
    obtain rfl:=Option.some.inj h
    exact zR [] [] []
   ·refine zk ?_
    refine AW.have1 (fun _:Unit=>history_apart_k1 a b=some r) (fun _=>⟨fr [(2,.bp 2 0),(3,.bp 3 0)],hpGet [(2,.box 68 [.int .i64 a.1,.int .i64 a.2.1,.int .i64 a.2.2.1,.int .i64 a.2.2.2.1,.int .i64 a.2.2.2.2.1,.int .i64 a.2.2.2.2.2]),(3,.box 68 [.int .i64 b.1,.int .i64 b.2.1,.int .i64 b.2.2.1,.int .i64 b.2.2.2.1,.int .i64 b.2.2.2.2.1,.int .i64 b.2.2.2.2.2])],gt⟩) (fun _ h=>?_) (fun hk_history_apart_k1=>?_)
    ·as_aux_lemma =>
      unfold history_apart_k1 at h
      refine zo ?_
      refine zS 5 [(2,.bp 2 0),(3,.bp 3 0),(38,.bool (!(decide (a.1=b.1))))] [(2,.box 68 [.int .i64 a.1,.int .i64 a.2.1,.int .i64 a.2.2.1,.int .i64 a.2.2.2.1,.int .i64 a.2.2.2.2.1,.int .i64 a.2.2.2.2.2]),(3,.box 68 [.int .i64 b.1,.int .i64 b.2.1,.int .i64 b.2.2.1,.int .i64 b.2.2.2.1,.int .i64 b.2.2.2.2.1,.int .i64 b.2.2.2.2.2])] ?_
      refine zS 1 [(2,.bp 2 0),(3,.bp 3 0),(39,.bool (!(decide (a.1=b.1))))] [(2,.box 68 [.int .i64 a.1,.int .i64 a.2.1,.int .i64 a.2.2.1,.int .i64 a.2.2.2.1,.int .i64 a.2.2.2.2.1,.int .i64 a.2.2.2.2.2]),(3,.box 68 [.int .i64 b.1,.int .i64 b.2.1,.int .i64 b.2.2.1,.int .i64 b.2.2.2.1,.int .i64 b.2.2.2.2.1,.int .i64 b.2.2.2.2.2])] ?_
      rcases zI h with ⟨hb6,h⟩|⟨hb6,h⟩
      ·refine zS 5 [(2,.bp 2 0),(3,.bp 3 0),(44,.bool true)] [(2,.box 68 [.int .i64 a.1,.int .i64 a.2.1,.int .i64 a.2.2.1,.int .i64 a.2.2.2.1,.int .i64 a.2.2.2.2.1,.int .i64 a.2.2.2.2.2]),(3,.box 68 [.int .i64 b.1,.int .i64 b.2.1,.int .i64 b.2.2.1,.int .i64 b.2.2.2.1,.int .i64 b.2.2.2.2.1,.int .i64 b.2.2.2.2.2])] ?_
       refine zB [(4,.bool true)] [] ?_
       refine AW.ret ?_
       obtain rfl:=Option.some.inj h
       exact zR [] [] []
      ·refine zS 2 [(2,.bp 2 0),(3,.bp 3 0),(39,.bool false),(40,.agg [.int .i64 a.1,.int .i64 a.2.1,.int .i64 a.2.2.1,.int .i64 a.2.2.2.1,.int .i64 a.2.2.2.2.1,.int .i64 a.2.2.2.2.2]),(41,.agg [.int .i64 b.1,.int .i64 b.2.1,.int .i64 b.2.2.1,.int .i64 b.2.2.2.1,.int .i64 b.2.2.2.2.1,.int .i64 b.2.2.2.2.2])] [(2,.box 68 [.int .i64 a.1,.int .i64 a.2.1,.int .i64 a.2.2.1,.int .i64 a.2.2.2.1,.int .i64 a.2.2.2.2.1,.int .i64 a.2.2.2.2.2]),(3,.box 68 [.int .i64 b.1,.int .i64 b.2.1,.int .i64 b.2.2.1,.int .i64 b.2.2.2.1,.int .i64 b.2.2.2.2.1,.int .i64 b.2.2.2.2.2])] ?_
       obtain ⟨v0,hv7,h⟩:=Option.bind_eq_some_iff.1 h
       refine zG [] [] (hc_history_before a b hv7) [(2,.bp 2 0),(3,.bp 3 0),(39,.bool false),(42,.bool v0)] [(2,.box 68 [.int .i64 a.1,.int .i64 a.2.1,.int .i64 a.2.2.1,.int .i64 a.2.2.2.1,.int .i64 a.2.2.2.2.1,.int .i64 a.2.2.2.2.2]),(3,.box 68 [.int .i64 b.1,.int .i64 b.2.1,.int .i64 b.2.2.1,.int .i64 b.2.2.2.1,.int .i64 b.2.2.2.2.1,.int .i64 b.2.2.2.2.2])] ?_
       refine zS 2 [(2,.bp 2 0),(3,.bp 3 0),(44,.bool v0)] [(2,.box 68 [.int .i64 a.1,.int .i64 a.2.1,.int .i64 a.2.2.1,.int .i64 a.2.2.2.1,.int .i64 a.2.2.2.2.1,.int .i64 a.2.2.2.2.2]),(3,.box 68 [.int .i64 b.1,.int .i64 b.2.1,.int .i64 b.2.2.1,.int .i64 b.2.2.2.1,.int .i64 b.2.2.2.2.1,.int .i64 b.2.2.2.2.2])] ?_
       rcases zI h with ⟨hb8,h⟩|⟨hb8,h⟩
       ·refine zB [(4,.bool true)] [] ?_
        refine AW.ret ?_
        obtain rfl:=Option.some.inj h
        exact zR [] [] []
       ·refine zS 2 [(44,.bool false),(45,.agg [.int .i64 b.1,.int .i64 b.2.1,.int .i64 b.2.2.1,.int .i64 b.2.2.2.1,.int .i64 b.2.2.2.2.1,.int .i64 b.2.2.2.2.2]),(46,.agg [.int .i64 a.1,.int .i64 a.2.1,.int .i64 a.2.2.1,.int .i64 a.2.2.2.1,.int .i64 a.2.2.2.2.1,.int .i64 a.2.2.2.2.2])] [] ?_
        obtain ⟨v0_2,hv9,h⟩:=Option.bind_eq_some_iff.1 h
        refine zG [] [] (hc_history_before b a hv9) [(44,.bool false),(47,.bool v0_2)] [] ?_
        refine zB [(4,.bool v0_2)] [] ?_
        refine AW.ret ?_
        obtain rfl:=Option.some.inj h
        exact zR [] [] []
    ·refine AW.seq ?_
     refine zo ?_
     refine zS 5 [(2,.bp 2 0),(3,.bp 3 0),(28,.bool (decide (a.2.2.2.2.2=b.2.2.2.2.2)))] [(2,.box 68 [.int .i64 a.1,.int .i64 a.2.1,.int .i64 a.2.2.1,.int .i64 a.2.2.2.1,.int .i64 a.2.2.2.2.1,.int .i64 a.2.2.2.2.2]),(3,.box 68 [.int .i64 b.1,.int .i64 b.2.1,.int .i64 b.2.2.1,.int .i64 b.2.2.2.1,.int .i64 b.2.2.2.2.1,.int .i64 b.2.2.2.2.2])] ?_
     refine zS 1 [(2,.bp 2 0),(3,.bp 3 0),(29,.bool (decide (a.2.2.2.2.2=b.2.2.2.2.2)))] [(2,.box 68 [.int .i64 a.1,.int .i64 a.2.1,.int .i64 a.2.2.1,.int .i64 a.2.2.2.1,.int .i64 a.2.2.2.2.1,.int .i64 a.2.2.2.2.2]),(3,.box 68 [.int .i64 b.1,.int .i64 b.2.1,.int .i64 b.2.2.1,.int .i64 b.2.2.2.1,.int .i64 b.2.2.2.2.1,.int .i64 b.2.2.2.2.2])] ?_
     rcases zI h with ⟨hb10,h⟩|⟨hb10,h⟩
     ·refine zB [(2,.bp 2 0),(3,.bp 3 0),(33,.bool (!(decide (a.2.2.2.2.2=0))))] [(2,.box 68 [.int .i64 a.1,.int .i64 a.2.1,.int .i64 a.2.2.1,.int .i64 a.2.2.2.1,.int .i64 a.2.2.2.2.1,.int .i64 a.2.2.2.2.2]),(3,.box 68 [.int .i64 b.1,.int .i64 b.2.1,.int .i64 b.2.2.1,.int .i64 b.2.2.2.1,.int .i64 b.2.2.2.2.1,.int .i64 b.2.2.2.2.2])] ?_
      refine zQ h (fun hb11 h=>?_) (fun hb11 h=>?_)
      ·refine zo ?_
       refine zB [(4,.bool false)] [] ?_
       refine zr ?_
       obtain rfl:=Option.some.inj h
       exact zR [] [] []
      ·refine zk ?_
       exact AW.weaken (zL [] [] []) (hk_history_apart_k1 () h)
     ·refine zB [(2,.bp 2 0),(3,.bp 3 0),(33,.bool false)] [(2,.box 68 [.int .i64 a.1,.int .i64 a.2.1,.int .i64 a.2.2.1,.int .i64 a.2.2.2.1,.int .i64 a.2.2.2.2.1,.int .i64 a.2.2.2.2.2]),(3,.box 68 [.int .i64 b.1,.int .i64 b.2.1,.int .i64 b.2.2.1,.int .i64 b.2.2.2.1,.int .i64 b.2.2.2.2.1,.int .i64 b.2.2.2.2.2])] ?_
      refine AW.cond (b:=false) rfl (fun hb12=>by cases hb12) (fun _=>?_)
      refine zk ?_
      exact AW.weaken (zL [] [] []) (hk_history_apart_k1 () h)
theorem hc_history_Valid (h0:ZH) {r:Bool} (h:history_Valid h0=some r):HC Try.prog 139 [] [.sl (.pair (.int .i64) (.pair (.int .i64) (.pair (.int .i64) (.pair (.int .i64) (.pair (.int .i64) (.int .i64)))))) h0] [] (.bool r):=by
 unfold history_Valid at h
 refine zH Try.func139 [.tmp 2] 34 ?_
 refine zo ?_
 refine zB [(0,.sl (.pair (.int .i64) (.pair (.int .i64) (.pair (.int .i64) (.pair (.int .i64) (.pair (.int .i64) (.int .i64)))))) h0)] [] ?_
 refine AW.seq ?_
 refine zo ?_
 refine zB [(0,.sl (.pair (.int .i64) (.pair (.int .i64) (.pair (.int .i64) (.pair (.int .i64) (.pair (.int .i64) (.int .i64)))))) h0),(9,.bool (decide (8<(h0.length:Int))))] [] ?_
 refine zQ h (fun hb1 h=>?_) (fun hb1 h=>?_)
 ·refine zo ?_
  refine zB [(2,.bool false)] [] ?_
  refine zr ?_
  obtain rfl:=Option.some.inj h
  exact zR [] [] []
 ·refine zk ?_
  refine AW.have1 (fun _:Unit=>history_Valid_k1=some r) (fun _=>⟨fr [],hpGet [],gt⟩) (fun _ h=>?_) (fun hk_history_Valid_k1=>?_)
  ·as_aux_lemma =>
    unfold history_Valid_k1 at h
    refine zo ?_
    refine zB [(2,.bool true)] [] ?_
    refine AW.ret ?_
    obtain rfl:=Option.some.inj h
    exact zR [] [] []
  ·refine AW.seq ?_
   refine zo ?_
   refine zB [(0,.sl (.pair (.int .i64) (.pair (.int .i64) (.pair (.int .i64) (.pair (.int .i64) (.pair (.int .i64) (.int .i64)))))) h0),(10,.sl (.pair (.int .i64) (.pair (.int .i64) (.pair (.int .i64) (.pair (.int .i64) (.pair (.int .i64) (.int .i64)))))) h0),(11,.int .i64 (h0.length:Int)),(12,.int .i64 0)] [] ?_
   refine AW.block ?_
   obtain ⟨rv6,hw2,ho3⟩:=Option.bind_eq_some_iff.1 h
   refine AW.loopO (history_Valid_b1 h0) (fun st1=>⟨fr [(0,.sl (.pair (.int .i64) (.pair (.int .i64) (.pair (.int .i64) (.pair (.int .i64) (.pair (.int .i64) (.int .i64)))))) h0),(10,.sl (.pair (.int .i64) (.pair (.int .i64) (.pair (.int .i64) (.pair (.int .i64) (.pair (.int .i64) (.int .i64)))))) h0),(11,.int .i64 (h0.length:Int)),(12,.int .i64 st1)],hpGet [],gt⟩) 0 hw2 (zL [] [] []) ?_
   as_aux_lemma =>
    intro st1 x5 h hd4
    unfold history_Valid_b1 at h
    refine zo ?_
    refine zB [(0,.sl (.pair (.int .i64) (.pair (.int .i64) (.pair (.int .i64) (.pair (.int .i64) (.pair (.int .i64) (.int .i64)))))) h0),(10,.sl (.pair (.int .i64) (.pair (.int .i64) (.pair (.int .i64) (.pair (.int .i64) (.pair (.int .i64) (.int .i64)))))) h0),(11,.int .i64 (h0.length:Int)),(12,.int .i64 st1),(13,.bool (decide (st1<(h0.length:Int))))] [] ?_
    refine AW.seq ?_
    refine zQ h (fun hb7 h=>?_) (fun hb7 h=>?_)
    ·refine zk ?_
     refine AW.have1 (fun _:Unit=>history_Valid_k2 st1=some x5) (fun _=>⟨fr [(0,.sl (.pair (.int .i64) (.pair (.int .i64) (.pair (.int .i64) (.pair (.int .i64) (.pair (.int .i64) (.int .i64)))))) h0),(10,.sl (.pair (.int .i64) (.pair (.int .i64) (.pair (.int .i64) (.pair (.int .i64) (.pair (.int .i64) (.int .i64)))))) h0),(11,.int .i64 (h0.length:Int)),(12,.int .i64 st1)],hpGet [],gt⟩) (fun _ h=>?_) (fun hk_history_Valid_k2=>?_)
     ·as_aux_lemma =>
       unfold history_Valid_k2 at h
       refine AW.ops ?_
       obtain ⟨c8,h⟩:=ck_some.1 h
       refine zA [(0,.sl (.pair (.int .i64) (.pair (.int .i64) (.pair (.int .i64) (.pair (.int .i64) (.pair (.int .i64) (.int .i64)))))) h0),(10,.sl (.pair (.int .i64) (.pair (.int .i64) (.pair (.int .i64) (.pair (.int .i64) (.pair (.int .i64) (.int .i64)))))) h0),(11,.int .i64 (h0.length:Int)),(12,.int .i64 (st1+1))] [] ?_
       obtain rfl:=Option.some.inj h
       exact ⟨_,rfl,zL [] [] []⟩
     ·refine AW.seq ?_
      refine AW.block ?_
      refine zo ?_
      obtain ⟨c9,h⟩:=ck_some.1 h
      obtain ⟨c10,h⟩:=ck_some.1 h
      refine zS 5 [(0,.sl (.pair (.int .i64) (.pair (.int .i64) (.pair (.int .i64) (.pair (.int .i64) (.pair (.int .i64) (.int .i64)))))) h0),(3,.int .i64 st1),(4,.bp 4 0),(10,.sl (.pair (.int .i64) (.pair (.int .i64) (.pair (.int .i64) (.pair (.int .i64) (.pair (.int .i64) (.int .i64)))))) h0),(11,.int .i64 (h0.length:Int)),(12,.int .i64 st1),(16,.agg [.int .i64 (h0.getD st1.toNat (0,0,0,0,0,0)).1,.int .i64 (h0.getD st1.toNat (0,0,0,0,0,0)).2.1,.int .i64 (h0.getD st1.toNat (0,0,0,0,0,0)).2.2.1,.int .i64 (h0.getD st1.toNat (0,0,0,0,0,0)).2.2.2.1,.int .i64 (h0.getD st1.toNat (0,0,0,0,0,0)).2.2.2.2.1,.int .i64 (h0.getD st1.toNat (0,0,0,0,0,0)).2.2.2.2.2])] [(4,.box 68 [.int .i64 0,.int .i64 0,.int .i64 0,.int .i64 0,.int .i64 0,.int .i64 0])] ?_
      refine zB [(0,.sl (.pair (.int .i64) (.pair (.int .i64) (.pair (.int .i64) (.pair (.int .i64) (.pair (.int .i64) (.int .i64)))))) h0),(3,.int .i64 st1),(4,.bp 4 0),(10,.sl (.pair (.int .i64) (.pair (.int .i64) (.pair (.int .i64) (.pair (.int .i64) (.pair (.int .i64) (.int .i64)))))) h0),(11,.int .i64 (h0.length:Int)),(12,.int .i64 st1)] [(4,.box 68 [.int .i64 (h0.getD st1.toNat (0,0,0,0,0,0)).1,.int .i64 (h0.getD st1.toNat (0,0,0,0,0,0)).2.1,.int .i64 (h0.getD st1.toNat (0,0,0,0,0,0)).2.2.1,.int .i64 (h0.getD st1.toNat (0,0,0,0,0,0)).2.2.2.1,.int .i64 (h0.getD st1.toNat (0,0,0,0,0,0)).2.2.2.2.1,.int .i64 (h0.getD st1.toNat (0,0,0,0,0,0)).2.2.2.2.2])] ?_
      refine AW.seq ?_
      refine zo ?_
      refine zS 1 [(0,.sl (.pair (.int .i64) (.pair (.int .i64) (.pair (.int .i64) (.pair (.int .i64) (.pair (.int .i64) (.int .i64)))))) h0),(3,.int .i64 st1),(4,.bp 4 0),(10,.sl (.pair (.int .i64) (.pair (.int .i64) (.pair (.int .i64) (.pair (.int .i64) (.pair (.int .i64) (.int .i64)))))) h0),(11,.int .i64 (h0.length:Int)),(12,.int .i64 st1),(17,.agg [.int .i64 (h0.getD st1.toNat (0,0,0,0,0,0)).1,.int .i64 (h0.getD st1.toNat (0,0,0,0,0,0)).2.1,.int .i64 (h0.getD st1.toNat (0,0,0,0,0,0)).2.2.1,.int .i64 (h0.getD st1.toNat (0,0,0,0,0,0)).2.2.2.1,.int .i64 (h0.getD st1.toNat (0,0,0,0,0,0)).2.2.2.2.1,.int .i64 (h0.getD st1.toNat (0,0,0,0,0,0)).2.2.2.2.2])] [(4,.box 68 [.int .i64 (h0.getD st1.toNat (0,0,0,0,0,0)).1,.int .i64 (h0.getD st1.toNat (0,0,0,0,0,0)).2.1,.int .i64 (h0.getD st1.toNat (0,0,0,0,0,0)).2.2.1,.int .i64 (h0.getD st1.toNat (0,0,0,0,0,0)).2.2.2.1,.int .i64 (h0.getD st1.toNat (0,0,0,0,0,0)).2.2.2.2.1,.int .i64 (h0.getD st1.toNat (0,0,0,0,0,0)).2.2.2.2.2])] ?_
      obtain ⟨v0,hv11,h⟩:=Option.bind_eq_some_iff.1 h
      refine zC [] [] (hc_history_isCall (h0.getD st1.toNat (0,0,0,0,0,0)) hv11) [(0,.sl (.pair (.int .i64) (.pair (.int .i64) (.pair (.int .i64) (.pair (.int .i64) (.pair (.int .i64) (.int .i64)))))) h0),(3,.int .i64 st1),(4,.bp 4 0),(10,.sl (.pair (.int .i64) (.pair (.int .i64) (.pair (.int .i64) (.pair (.int .i64) (.pair (.int .i64) (.int .i64)))))) h0),(11,.int .i64 (h0.length:Int)),(12,.int .i64 st1),(18,.bool v0)] [(4,.box 68 [.int .i64 (h0.getD st1.toNat (0,0,0,0,0,0)).1,.int .i64 (h0.getD st1.toNat (0,0,0,0,0,0)).2.1,.int .i64 (h0.getD st1.toNat (0,0,0,0,0,0)).2.2.1,.int .i64 (h0.getD st1.toNat (0,0,0,0,0,0)).2.2.2.1,.int .i64 (h0.getD st1.toNat (0,0,0,0,0,0)).2.2.2.2.1,.int .i64 (h0.getD st1.toNat (0,0,0,0,0,0)).2.2.2.2.2])] ?_
      refine zB [(0,.sl (.pair (.int .i64) (.pair (.int .i64) (.pair (.int .i64) (.pair (.int .i64) (.pair (.int .i64) (.int .i64)))))) h0),(3,.int .i64 st1),(4,.bp 4 0),(10,.sl (.pair (.int .i64) (.pair (.int .i64) (.pair (.int .i64) (.pair (.int .i64) (.pair (.int .i64) (.int .i64)))))) h0),(11,.int .i64 (h0.length:Int)),(12,.int .i64 st1),(19,.bool (!v0))] [(4,.box 68 [.int .i64 (h0.getD st1.toNat (0,0,0,0,0,0)).1,.int .i64 (h0.getD st1.toNat (0,0,0,0,0,0)).2.1,.int .i64 (h0.getD st1.toNat (0,0,0,0,0,0)).2.2.1,.int .i64 (h0.getD st1.toNat (0,0,0,0,0,0)).2.2.2.1,.int .i64 (h0.getD st1.toNat (0,0,0,0,0,0)).2.2.2.2.1,.int .i64 (h0.getD st1.toNat (0,0,0,0,0,0)).2.2.2.2.2])] ?_
      refine zQ h (fun hb12 h=>?_) (fun hb12 h=>?_)
      ·refine zo ?_
       refine zB [(2,.bool false)] [] ?_
       refine zr ?_
       refine ablock_r ?_
       refine athen_r ?_
       obtain rfl:=Option.some.inj h
       try rw [← hd4 _ rfl] at ho3
       have h:=ho3
       try simp only at h
       refine athen_r ?_
       refine ablock_r ?_
       refine athen_r ?_
       obtain rfl:=Option.some.inj h
       exact zR [] [] []
      ·refine zk ?_
       refine zo ?_
       obtain ⟨c13,h⟩:=ck_some.1 h
       obtain ⟨c14,h⟩:=ck_some.1 h
       refine zB [(0,.sl (.pair (.int .i64) (.pair (.int .i64) (.pair (.int .i64) (.pair (.int .i64) (.pair (.int .i64) (.int .i64)))))) h0),(4,.bp 4 0),(10,.sl (.pair (.int .i64) (.pair (.int .i64) (.pair (.int .i64) (.pair (.int .i64) (.pair (.int .i64) (.int .i64)))))) h0),(11,.int .i64 (h0.length:Int)),(12,.int .i64 st1),(22,.sl (.pair (.int .i64) (.pair (.int .i64) (.pair (.int .i64) (.pair (.int .i64) (.pair (.int .i64) (.int .i64)))))) (h0.take st1.toNat)),(23,.int .i64 ((h0.take st1.toNat).length:Int)),(24,.int .i64 0)] [(4,.box 68 [.int .i64 (h0.getD st1.toNat (0,0,0,0,0,0)).1,.int .i64 (h0.getD st1.toNat (0,0,0,0,0,0)).2.1,.int .i64 (h0.getD st1.toNat (0,0,0,0,0,0)).2.2.1,.int .i64 (h0.getD st1.toNat (0,0,0,0,0,0)).2.2.2.1,.int .i64 (h0.getD st1.toNat (0,0,0,0,0,0)).2.2.2.2.1,.int .i64 (h0.getD st1.toNat (0,0,0,0,0,0)).2.2.2.2.2])] ?_
       refine AW.block ?_
       obtain ⟨rv19,hw15,ho16⟩:=Option.bind_eq_some_iff.1 h
       refine AW.loopO (history_Valid_b2 h0 st1) (fun st2=>⟨fr [(0,.sl (.pair (.int .i64) (.pair (.int .i64) (.pair (.int .i64) (.pair (.int .i64) (.pair (.int .i64) (.int .i64)))))) h0),(4,.bp 4 0),(10,.sl (.pair (.int .i64) (.pair (.int .i64) (.pair (.int .i64) (.pair (.int .i64) (.pair (.int .i64) (.int .i64)))))) h0),(11,.int .i64 (h0.length:Int)),(12,.int .i64 st1),(22,.sl (.pair (.int .i64) (.pair (.int .i64) (.pair (.int .i64) (.pair (.int .i64) (.pair (.int .i64) (.int .i64)))))) (h0.take st1.toNat)),(23,.int .i64 ((h0.take st1.toNat).length:Int)),(24,.int .i64 st2)],hpGet [(4,.box 68 [.int .i64 (h0.getD st1.toNat (0,0,0,0,0,0)).1,.int .i64 (h0.getD st1.toNat (0,0,0,0,0,0)).2.1,.int .i64 (h0.getD st1.toNat (0,0,0,0,0,0)).2.2.1,.int .i64 (h0.getD st1.toNat (0,0,0,0,0,0)).2.2.2.1,.int .i64 (h0.getD st1.toNat (0,0,0,0,0,0)).2.2.2.2.1,.int .i64 (h0.getD st1.toNat (0,0,0,0,0,0)).2.2.2.2.2])],gt⟩) 0 hw15 (zL [] [] []) ?_
       as_aux_lemma =>
        intro st2 x18 h hd17
        unfold history_Valid_b2 at h
        refine zo ?_
        refine zB [(0,.sl (.pair (.int .i64) (.pair (.int .i64) (.pair (.int .i64) (.pair (.int .i64) (.pair (.int .i64) (.int .i64)))))) h0),(4,.bp 4 0),(10,.sl (.pair (.int .i64) (.pair (.int .i64) (.pair (.int .i64) (.pair (.int .i64) (.pair (.int .i64) (.int .i64)))))) h0),(11,.int .i64 (h0.length:Int)),(12,.int .i64 st1),(22,.sl (.pair (.int .i64) (.pair (.int .i64) (.pair (.int .i64) (.pair (.int .i64) (.pair (.int .i64) (.int .i64)))))) (h0.take st1.toNat)),(23,.int .i64 ((h0.take st1.toNat).length:Int)),(24,.int .i64 st2),(25,.bool (decide (st2<((h0.take st1.toNat).length:Int))))] [(4,.box 68 [.int .i64 (h0.getD st1.toNat (0,0,0,0,0,0)).1,.int .i64 (h0.getD st1.toNat (0,0,0,0,0,0)).2.1,.int .i64 (h0.getD st1.toNat (0,0,0,0,0,0)).2.2.1,.int .i64 (h0.getD st1.toNat (0,0,0,0,0,0)).2.2.2.1,.int .i64 (h0.getD st1.toNat (0,0,0,0,0,0)).2.2.2.2.1,.int .i64 (h0.getD st1.toNat (0,0,0,0,0,0)).2.2.2.2.2])] ?_
        refine AW.seq ?_
        refine zQ h (fun hb20 h=>?_) (fun hb20 h=>?_)
        ·refine zk ?_
         refine AW.seq ?_
         refine AW.block ?_
         refine zo ?_
         obtain ⟨c21,h⟩:=ck_some.1 h
         obtain ⟨c22,h⟩:=ck_some.1 h
         refine zB [(0,.sl (.pair (.int .i64) (.pair (.int .i64) (.pair (.int .i64) (.pair (.int .i64) (.pair (.int .i64) (.int .i64)))))) h0),(4,.bp 4 0),(6,.bp 6 0),(10,.sl (.pair (.int .i64) (.pair (.int .i64) (.pair (.int .i64) (.pair (.int .i64) (.pair (.int .i64) (.int .i64)))))) h0),(11,.int .i64 (h0.length:Int)),(12,.int .i64 st1),(22,.sl (.pair (.int .i64) (.pair (.int .i64) (.pair (.int .i64) (.pair (.int .i64) (.pair (.int .i64) (.int .i64)))))) (h0.take st1.toNat)),(23,.int .i64 ((h0.take st1.toNat).length:Int)),(24,.int .i64 st2)] [(4,.box 68 [.int .i64 (h0.getD st1.toNat (0,0,0,0,0,0)).1,.int .i64 (h0.getD st1.toNat (0,0,0,0,0,0)).2.1,.int .i64 (h0.getD st1.toNat (0,0,0,0,0,0)).2.2.1,.int .i64 (h0.getD st1.toNat (0,0,0,0,0,0)).2.2.2.1,.int .i64 (h0.getD st1.toNat (0,0,0,0,0,0)).2.2.2.2.1,.int .i64 (h0.getD st1.toNat (0,0,0,0,0,0)).2.2.2.2.2]),(6,.box 68 [.int .i64 ((h0.take st1.toNat).getD st2.toNat (0,0,0,0,0,0)).1,.int .i64 ((h0.take st1.toNat).getD st2.toNat (0,0,0,0,0,0)).2.1,.int .i64 ((h0.take st1.toNat).getD st2.toNat (0,0,0,0,0,0)).2.2.1,.int .i64 ((h0.take st1.toNat).getD st2.toNat (0,0,0,0,0,0)).2.2.2.1,.int .i64 ((h0.take st1.toNat).getD st2.toNat (0,0,0,0,0,0)).2.2.2.2.1,.int .i64 ((h0.take st1.toNat).getD st2.toNat (0,0,0,0,0,0)).2.2.2.2.2])] ?_
         refine zo ?_
         refine zS 2 [(0,.sl (.pair (.int .i64) (.pair (.int .i64) (.pair (.int .i64) (.pair (.int .i64) (.pair (.int .i64) (.int .i64)))))) h0),(4,.bp 4 0),(10,.sl (.pair (.int .i64) (.pair (.int .i64) (.pair (.int .i64) (.pair (.int .i64) (.pair (.int .i64) (.int .i64)))))) h0),(11,.int .i64 (h0.length:Int)),(12,.int .i64 st1),(22,.sl (.pair (.int .i64) (.pair (.int .i64) (.pair (.int .i64) (.pair (.int .i64) (.pair (.int .i64) (.int .i64)))))) (h0.take st1.toNat)),(23,.int .i64 ((h0.take st1.toNat).length:Int)),(24,.int .i64 st2),(28,.agg [.int .i64 (h0.getD st1.toNat (0,0,0,0,0,0)).1,.int .i64 (h0.getD st1.toNat (0,0,0,0,0,0)).2.1,.int .i64 (h0.getD st1.toNat (0,0,0,0,0,0)).2.2.1,.int .i64 (h0.getD st1.toNat (0,0,0,0,0,0)).2.2.2.1,.int .i64 (h0.getD st1.toNat (0,0,0,0,0,0)).2.2.2.2.1,.int .i64 (h0.getD st1.toNat (0,0,0,0,0,0)).2.2.2.2.2]),(29,.agg [.int .i64 ((h0.take st1.toNat).getD st2.toNat (0,0,0,0,0,0)).1,.int .i64 ((h0.take st1.toNat).getD st2.toNat (0,0,0,0,0,0)).2.1,.int .i64 ((h0.take st1.toNat).getD st2.toNat (0,0,0,0,0,0)).2.2.1,.int .i64 ((h0.take st1.toNat).getD st2.toNat (0,0,0,0,0,0)).2.2.2.1,.int .i64 ((h0.take st1.toNat).getD st2.toNat (0,0,0,0,0,0)).2.2.2.2.1,.int .i64 ((h0.take st1.toNat).getD st2.toNat (0,0,0,0,0,0)).2.2.2.2.2])] [(4,.box 68 [.int .i64 (h0.getD st1.toNat (0,0,0,0,0,0)).1,.int .i64 (h0.getD st1.toNat (0,0,0,0,0,0)).2.1,.int .i64 (h0.getD st1.toNat (0,0,0,0,0,0)).2.2.1,.int .i64 (h0.getD st1.toNat (0,0,0,0,0,0)).2.2.2.1,.int .i64 (h0.getD st1.toNat (0,0,0,0,0,0)).2.2.2.2.1,.int .i64 (h0.getD st1.toNat (0,0,0,0,0,0)).2.2.2.2.2])] ?_
         obtain ⟨v0_2,hv23,h⟩:=Option.bind_eq_some_iff.1 h
         refine zC [] [] (hc_history_apart (h0.getD st1.toNat (0,0,0,0,0,0)) ((h0.take st1.toNat).getD st2.toNat (0,0,0,0,0,0)) hv23) [(0,.sl (.pair (.int .i64) (.pair (.int .i64) (.pair (.int .i64) (.pair (.int .i64) (.pair (.int .i64) (.int .i64)))))) h0),(4,.bp 4 0),(10,.sl (.pair (.int .i64) (.pair (.int .i64) (.pair (.int .i64) (.pair (.int .i64) (.pair (.int .i64) (.int .i64)))))) h0),(11,.int .i64 (h0.length:Int)),(12,.int .i64 st1),(22,.sl (.pair (.int .i64) (.pair (.int .i64) (.pair (.int .i64) (.pair (.int .i64) (.pair (.int .i64) (.int .i64)))))) (h0.take st1.toNat)),(23,.int .i64 ((h0.take st1.toNat).length:Int)),(24,.int .i64 st2),(30,.bool v0_2)] [(4,.box 68 [.int .i64 (h0.getD st1.toNat (0,0,0,0,0,0)).1,.int .i64 (h0.getD st1.toNat (0,0,0,0,0,0)).2.1,.int .i64 (h0.getD st1.toNat (0,0,0,0,0,0)).2.2.1,.int .i64 (h0.getD st1.toNat (0,0,0,0,0,0)).2.2.2.1,.int .i64 (h0.getD st1.toNat (0,0,0,0,0,0)).2.2.2.2.1,.int .i64 (h0.getD st1.toNat (0,0,0,0,0,0)).2.2.2.2.2])] ?_
         refine zB [(0,.sl (.pair (.int .i64) (.pair (.int .i64) (.pair (.int .i64) (.pair (.int .i64) (.pair (.int .i64) (.int .i64)))))) h0),(4,.bp 4 0),(10,.sl (.pair (.int .i64) (.pair (.int .i64) (.pair (.int .i64) (.pair (.int .i64) (.pair (.int .i64) (.int .i64)))))) h0),(11,.int .i64 (h0.length:Int)),(12,.int .i64 st1),(22,.sl (.pair (.int .i64) (.pair (.int .i64) (.pair (.int .i64) (.pair (.int .i64) (.pair (.int .i64) (.int .i64)))))) (h0.take st1.toNat)),(23,.int .i64 ((h0.take st1.toNat).length:Int)),(24,.int .i64 st2),(31,.bool (!v0_2))] [(4,.box 68 [.int .i64 (h0.getD st1.toNat (0,0,0,0,0,0)).1,.int .i64 (h0.getD st1.toNat (0,0,0,0,0,0)).2.1,.int .i64 (h0.getD st1.toNat (0,0,0,0,0,0)).2.2.1,.int .i64 (h0.getD st1.toNat (0,0,0,0,0,0)).2.2.2.1,.int .i64 (h0.getD st1.toNat (0,0,0,0,0,0)).2.2.2.2.1,.int .i64 (h0.getD st1.toNat (0,0,0,0,0,0)).2.2.2.2.2])] ?_
         refine zQ h (fun hb24 h=>?_) (fun hb24 h=>?_)
         ·refine zo ?_
          refine zB [(2,.bool false)] [] ?_
          refine AW.ret ?_
          refine ablock_r ?_
          refine athen_r ?_
          obtain rfl:=Option.some.inj h
          try rw [← hd17 _ rfl] at ho16
          have h:=ho16
          try simp only at h
          refine athen_r ?_
          refine ablock_r ?_
          refine ablock_r ?_
          refine athen_r ?_
          obtain rfl:=Option.some.inj h
          try rw [← hd4 _ rfl] at ho3
          have h:=ho3
          try simp only at h
          refine athen_r ?_
          refine ablock_r ?_
          refine athen_r ?_
          obtain rfl:=Option.some.inj h
          exact zR [] [] []
         ·refine zm ?_
          refine athen_n ?_
          refine AW.ops ?_
          obtain ⟨c25,h⟩:=ck_some.1 h
          refine zA [(0,.sl (.pair (.int .i64) (.pair (.int .i64) (.pair (.int .i64) (.pair (.int .i64) (.pair (.int .i64) (.int .i64)))))) h0),(4,.bp 4 0),(10,.sl (.pair (.int .i64) (.pair (.int .i64) (.pair (.int .i64) (.pair (.int .i64) (.pair (.int .i64) (.int .i64)))))) h0),(11,.int .i64 (h0.length:Int)),(12,.int .i64 st1),(22,.sl (.pair (.int .i64) (.pair (.int .i64) (.pair (.int .i64) (.pair (.int .i64) (.pair (.int .i64) (.int .i64)))))) (h0.take st1.toNat)),(23,.int .i64 ((h0.take st1.toNat).length:Int)),(24,.int .i64 (st2+1))] [(4,.box 68 [.int .i64 (h0.getD st1.toNat (0,0,0,0,0,0)).1,.int .i64 (h0.getD st1.toNat (0,0,0,0,0,0)).2.1,.int .i64 (h0.getD st1.toNat (0,0,0,0,0,0)).2.2.1,.int .i64 (h0.getD st1.toNat (0,0,0,0,0,0)).2.2.2.1,.int .i64 (h0.getD st1.toNat (0,0,0,0,0,0)).2.2.2.2.1,.int .i64 (h0.getD st1.toNat (0,0,0,0,0,0)).2.2.2.2.2])] ?_
          obtain rfl:=Option.some.inj h
          exact ⟨_,rfl,zL [] [] []⟩
        ·refine AW.exit ?_
         refine athen_e ?_
         obtain rfl:=Option.some.inj h
         try rw [← hd17 _ rfl] at ho16
         have h:=ho16
         try simp only at h
         refine athen_e ?_
         refine ablock_s ?_
         refine ablock_n ?_
         refine athen_n ?_
         exact AW.weaken (zL [] [] []) (hk_history_Valid_k2 () h)
    ·refine AW.exit ?_
     refine athen_e ?_
     obtain rfl:=Option.some.inj h
     try rw [← hd4 _ rfl] at ho3
     have h:=ho3
     try simp only at h
     refine athen_e ?_
     refine ablock_s ?_
     refine athen_n ?_
     exact AW.weaken (zL [] [] []) (hk_history_Valid_k1 () h)
theorem hc_history_check (h0:ZH) (arguments:Bool) {r:Int} (h:history_check h0 arguments=some r):HC Try.prog 98 [] [.sl (.pair (.int .i64) (.pair (.int .i64) (.pair (.int .i64) (.pair (.int .i64) (.pair (.int .i64) (.int .i64)))))) h0,.bool arguments] [] (.int .i64 r):=by
 unfold history_check at h
 refine zH Try.func98 [.tmp 4] 10 ?_
 refine zo ?_
 refine zB [(0,.sl (.pair (.int .i64) (.pair (.int .i64) (.pair (.int .i64) (.pair (.int .i64) (.pair (.int .i64) (.int .i64)))))) h0),(1,.bool arguments)] [] ?_
 refine AW.seq ?_
 refine zo ?_
 refine zS 1 [(1,.bool arguments),(5,.sl (.pair (.int .i64) (.pair (.int .i64) (.pair (.int .i64) (.pair (.int .i64) (.pair (.int .i64) (.int .i64)))))) h0)] [] ?_
 obtain ⟨v0,hv1,h⟩:=Option.bind_eq_some_iff.1 h
 refine zC [] [] (hc_history_Valid h0 hv1) [(1,.bool arguments),(6,.bool v0)] [] ?_
 refine zB [(1,.bool arguments),(7,.bool (!v0))] [] ?_
 refine zQ h (fun hb2 h=>?_) (fun hb2 h=>?_)
 ·refine zo ?_
  refine zB [(4,.int .i64 20)] [] ?_
  refine zr ?_
  obtain rfl:=Option.some.inj h
  exact zR [] [] []
 ·refine zk ?_
  refine AW.seq ?_
  refine zo ?_
  refine zB [(9,.bool (!arguments))] [] ?_
  refine zQ h (fun hb3 h=>?_) (fun hb3 h=>?_)
  ·refine zo ?_
   refine zB [(4,.int .i64 2)] [] ?_
   refine zr ?_
   obtain rfl:=Option.some.inj h
   exact zR [] [] []
  ·refine zk ?_
   refine zo ?_
   refine zB [(4,.int .i64 0)] [] ?_
   refine AW.ret ?_
   obtain rfl:=Option.some.inj h
   exact zR [] [] []
theorem hc_history_Until_1_1 (c:Int×Int×Int×Int×Int×Int) (a1:Int) {r:Unit} (h:history_Until_1_1 c a1=some r):HC Try.prog 102 [(1000,.box 3 [.int .i64 a1])] [.agg [.int .i64 c.1,.int .i64 c.2.1,.int .i64 c.2.2.1,.int .i64 c.2.2.2.1,.int .i64 c.2.2.2.2.1,.int .i64 c.2.2.2.2.2],.bp 1000 0] [(1000,.box 3 [.int .i64 a1])] (.bool (decide (c.2.2.2.2.1≤a1))):=by
 unfold history_Until_1_1 at h
 refine zH Try.func102 [.tmp 3] 8 ?_
 refine zo ?_
 refine zB [(1,.bp 1000 0),(2,.bp 2 0)] [(2,.box 68 [.int .i64 c.1,.int .i64 c.2.1,.int .i64 c.2.2.1,.int .i64 c.2.2.2.1,.int .i64 c.2.2.2.2.1,.int .i64 c.2.2.2.2.2]),(1000,.box 3 [.int .i64 a1])] ?_
 refine zo ?_
 refine zB [(3,.bool (decide (c.2.2.2.2.1≤a1)))] [(1000,.box 3 [.int .i64 a1])] ?_
 refine AW.ret ?_
 obtain rfl:=Option.some.inj h
 exact zR [] [] []
theorem hc_history_those (h0:ZH) (c0:Int) {r:ZH} (h:history_those h0 c0=some r):HC Try.prog 101 [(1000,.box 3 [.int .i64 c0])] [.sl (.pair (.int .i64) (.pair (.int .i64) (.pair (.int .i64) (.pair (.int .i64) (.pair (.int .i64) (.int .i64)))))) h0,.fn (.func 102) [] [.bp 1000 0]] [(1000,.box 3 [.int .i64 c0]),(2000,.arr 68 (.pair (.int .i64) (.pair (.int .i64) (.pair (.int .i64) (.pair (.int .i64) (.pair (.int .i64) (.int .i64)))))) r)] (.own 2000):=by
 unfold history_those at h
 refine zH Try.func101 [.tmp 4] 23 ?_
 refine zo ?_
 refine zB [(0,.sl (.pair (.int .i64) (.pair (.int .i64) (.pair (.int .i64) (.pair (.int .i64) (.pair (.int .i64) (.int .i64)))))) h0),(1,.fn (.func 102) [] [.bp 1000 0])] [(1000,.box 3 [.int .i64 c0])] ?_
 refine zo ?_
 refine zB [(0,.sl (.pair (.int .i64) (.pair (.int .i64) (.pair (.int .i64) (.pair (.int .i64) (.pair (.int .i64) (.int .i64)))))) h0),(1,.fn (.func 102) [] [.bp 1000 0]),(5,.cv (.slice none 0 0))] [(1000,.box 3 [.int .i64 c0])] ?_
 refine AW.have1 (fun b1:ZH=>history_those_k1 b1=some r) (fun b1=>⟨fr [(5,.own 20)],hpGet [(20,.arr 68 (.pair (.int .i64) (.pair (.int .i64) (.pair (.int .i64) (.pair (.int .i64) (.pair (.int .i64) (.int .i64)))))) b1),(1000,.box 3 [.int .i64 c0])],gt⟩) (fun b1 h=>?_) (fun hk_history_those_k1=>?_)
 ·as_aux_lemma =>
   unfold history_those_k1 at h
   refine zo ?_
   refine zB [(4,.own 20)] [(20,.arr 68 (.pair (.int .i64) (.pair (.int .i64) (.pair (.int .i64) (.pair (.int .i64) (.pair (.int .i64) (.int .i64)))))) b1),(1000,.box 3 [.int .i64 c0])] ?_
   refine AW.ret ?_
   obtain rfl:=Option.some.inj h
   exact zR [] [] [(2000,20)]
 ·refine AW.seq ?_
  refine zo ?_
  refine zB [(1,.fn (.func 102) [] [.bp 1000 0]),(5,.cv (.slice none 0 0)),(8,.sl (.pair (.int .i64) (.pair (.int .i64) (.pair (.int .i64) (.pair (.int .i64) (.pair (.int .i64) (.int .i64)))))) h0),(9,.int .i64 (h0.length:Int)),(10,.int .i64 0)] [(1000,.box 3 [.int .i64 c0])] ?_
  refine AW.block ?_
  obtain ⟨rv5,hw1,ho2⟩:=Option.bind_eq_some_iff.1 h
  refine AW.loopO (history_those_b1 h0 c0) (fun st1=>⟨fr [(1,.fn (.func 102) [] [.bp 1000 0]),(5,.own 20),(8,.sl (.pair (.int .i64) (.pair (.int .i64) (.pair (.int .i64) (.pair (.int .i64) (.pair (.int .i64) (.int .i64)))))) h0),(9,.int .i64 (h0.length:Int)),(10,.int .i64 st1.2)],hpGet [(20,.arr 68 (.pair (.int .i64) (.pair (.int .i64) (.pair (.int .i64) (.pair (.int .i64) (.pair (.int .i64) (.int .i64)))))) st1.1),(1000,.box 3 [.int .i64 c0])],gt⟩) ([],0) hw1 (zL [] [20] []) ?_
  as_aux_lemma =>
   intro st1 x4 h hd3
   unfold history_those_b1 at h
   refine zo ?_
   refine zB [(1,.fn (.func 102) [] [.bp 1000 0]),(5,.own 20),(8,.sl (.pair (.int .i64) (.pair (.int .i64) (.pair (.int .i64) (.pair (.int .i64) (.pair (.int .i64) (.int .i64)))))) h0),(9,.int .i64 (h0.length:Int)),(10,.int .i64 st1.2),(11,.bool (decide (st1.2<(h0.length:Int))))] [(20,.arr 68 (.pair (.int .i64) (.pair (.int .i64) (.pair (.int .i64) (.pair (.int .i64) (.pair (.int .i64) (.int .i64)))))) st1.1),(1000,.box 3 [.int .i64 c0])] ?_
   refine AW.seq ?_
   refine zQ h (fun hb6 h=>?_) (fun hb6 h=>?_)
   ·refine zk ?_
    refine AW.seq ?_
    refine AW.block ?_
    refine zo ?_
    obtain ⟨c7,h⟩:=ck_some.1 h
    obtain ⟨c8,h⟩:=ck_some.1 h
    refine zB [(1,.fn (.func 102) [] [.bp 1000 0]),(5,.own 20),(7,.bp 7 0),(8,.sl (.pair (.int .i64) (.pair (.int .i64) (.pair (.int .i64) (.pair (.int .i64) (.pair (.int .i64) (.int .i64)))))) h0),(9,.int .i64 (h0.length:Int)),(10,.int .i64 st1.2)] [(7,.box 68 [.int .i64 (h0.getD st1.2.toNat (0,0,0,0,0,0)).1,.int .i64 (h0.getD st1.2.toNat (0,0,0,0,0,0)).2.1,.int .i64 (h0.getD st1.2.toNat (0,0,0,0,0,0)).2.2.1,.int .i64 (h0.getD st1.2.toNat (0,0,0,0,0,0)).2.2.2.1,.int .i64 (h0.getD st1.2.toNat (0,0,0,0,0,0)).2.2.2.2.1,.int .i64 (h0.getD st1.2.toNat (0,0,0,0,0,0)).2.2.2.2.2]),(20,.arr 68 (.pair (.int .i64) (.pair (.int .i64) (.pair (.int .i64) (.pair (.int .i64) (.pair (.int .i64) (.int .i64)))))) st1.1),(1000,.box 3 [.int .i64 c0])] ?_
    refine zo ?_
    refine zS 2 [(1,.fn (.func 102) [] [.bp 1000 0]),(5,.own 20),(7,.bp 7 0),(8,.sl (.pair (.int .i64) (.pair (.int .i64) (.pair (.int .i64) (.pair (.int .i64) (.pair (.int .i64) (.int .i64)))))) h0),(9,.int .i64 (h0.length:Int)),(10,.int .i64 st1.2),(14,.fn (.func 102) [] [.bp 1000 0]),(15,.agg [.int .i64 (h0.getD st1.2.toNat (0,0,0,0,0,0)).1,.int .i64 (h0.getD st1.2.toNat (0,0,0,0,0,0)).2.1,.int .i64 (h0.getD st1.2.toNat (0,0,0,0,0,0)).2.2.1,.int .i64 (h0.getD st1.2.toNat (0,0,0,0,0,0)).2.2.2.1,.int .i64 (h0.getD st1.2.toNat (0,0,0,0,0,0)).2.2.2.2.1,.int .i64 (h0.getD st1.2.toNat (0,0,0,0,0,0)).2.2.2.2.2])] [(7,.box 68 [.int .i64 (h0.getD st1.2.toNat (0,0,0,0,0,0)).1,.int .i64 (h0.getD st1.2.toNat (0,0,0,0,0,0)).2.1,.int .i64 (h0.getD st1.2.toNat (0,0,0,0,0,0)).2.2.1,.int .i64 (h0.getD st1.2.toNat (0,0,0,0,0,0)).2.2.2.1,.int .i64 (h0.getD st1.2.toNat (0,0,0,0,0,0)).2.2.2.2.1,.int .i64 (h0.getD st1.2.toNat (0,0,0,0,0,0)).2.2.2.2.2]),(20,.arr 68 (.pair (.int .i64) (.pair (.int .i64) (.pair (.int .i64) (.pair (.int .i64) (.pair (.int .i64) (.int .i64)))))) st1.1),(1000,.box 3 [.int .i64 c0])] ?_
    obtain ⟨v0,hv9,h⟩:=Option.bind_eq_some_iff.1 h
    refine zC [] [(1000,1000)] (hc_history_Until_1_1 (h0.getD st1.2.toNat (0,0,0,0,0,0)) c0 hv9) [(1,.fn (.func 102) [] [.bp 1000 0]),(5,.own 20),(7,.bp 7 0),(8,.sl (.pair (.int .i64) (.pair (.int .i64) (.pair (.int .i64) (.pair (.int .i64) (.pair (.int .i64) (.int .i64)))))) h0),(9,.int .i64 (h0.length:Int)),(10,.int .i64 st1.2),(16,.bool (decide ((h0.getD st1.2.toNat (0,0,0,0,0,0)).2.2.2.2.1≤c0)))] [(7,.box 68 [.int .i64 (h0.getD st1.2.toNat (0,0,0,0,0,0)).1,.int .i64 (h0.getD st1.2.toNat (0,0,0,0,0,0)).2.1,.int .i64 (h0.getD st1.2.toNat (0,0,0,0,0,0)).2.2.1,.int .i64 (h0.getD st1.2.toNat (0,0,0,0,0,0)).2.2.2.1,.int .i64 (h0.getD st1.2.toNat (0,0,0,0,0,0)).2.2.2.2.1,.int .i64 (h0.getD st1.2.toNat (0,0,0,0,0,0)).2.2.2.2.2]),(20,.arr 68 (.pair (.int .i64) (.pair (.int .i64) (.pair (.int .i64) (.pair (.int .i64) (.pair (.int .i64) (.int .i64)))))) st1.1),(1000,.box 3 [.int .i64 c0])] ?_
    refine zB [(1,.fn (.func 102) [] [.bp 1000 0]),(5,.own 20),(7,.bp 7 0),(8,.sl (.pair (.int .i64) (.pair (.int .i64) (.pair (.int .i64) (.pair (.int .i64) (.pair (.int .i64) (.int .i64)))))) h0),(9,.int .i64 (h0.length:Int)),(10,.int .i64 st1.2),(16,.bool (decide ((h0.getD st1.2.toNat (0,0,0,0,0,0)).2.2.2.2.1≤c0)))] [(7,.box 68 [.int .i64 (h0.getD st1.2.toNat (0,0,0,0,0,0)).1,.int .i64 (h0.getD st1.2.toNat (0,0,0,0,0,0)).2.1,.int .i64 (h0.getD st1.2.toNat (0,0,0,0,0,0)).2.2.1,.int .i64 (h0.getD st1.2.toNat (0,0,0,0,0,0)).2.2.2.1,.int .i64 (h0.getD st1.2.toNat (0,0,0,0,0,0)).2.2.2.2.1,.int .i64 (h0.getD st1.2.toNat (0,0,0,0,0,0)).2.2.2.2.2]),(20,.arr 68 (.pair (.int .i64) (.pair (.int .i64) (.pair (.int .i64) (.pair (.int .i64) (.pair (.int .i64) (.int .i64)))))) st1.1),(1000,.box 3 [.int .i64 c0])] ?_
    refine zQ h (fun hb10 h=>?_) (fun hb10 h=>?_)
    ·refine AW.ops ?_
     obtain ⟨c11,h⟩:=ck_some.1 h
     refine zA [(1,.fn (.func 102) [] [.bp 1000 0]),(5,.own 20),(8,.sl (.pair (.int .i64) (.pair (.int .i64) (.pair (.int .i64) (.pair (.int .i64) (.pair (.int .i64) (.int .i64)))))) h0),(9,.int .i64 (h0.length:Int)),(10,.int .i64 st1.2)] [(20,.arr 68 (.pair (.int .i64) (.pair (.int .i64) (.pair (.int .i64) (.pair (.int .i64) (.pair (.int .i64) (.int .i64)))))) (st1.1++[(h0.getD st1.2.toNat (0,0,0,0,0,0))])),(1000,.box 3 [.int .i64 c0])] ?_
     refine ablock_n ?_
     refine athen_n ?_
     refine AW.ops ?_
     obtain ⟨c12,h⟩:=ck_some.1 h
     refine zA [(1,.fn (.func 102) [] [.bp 1000 0]),(5,.own 20),(8,.sl (.pair (.int .i64) (.pair (.int .i64) (.pair (.int .i64) (.pair (.int .i64) (.pair (.int .i64) (.int .i64)))))) h0),(9,.int .i64 (h0.length:Int)),(10,.int .i64 (st1.2+1))] [(20,.arr 68 (.pair (.int .i64) (.pair (.int .i64) (.pair (.int .i64) (.pair (.int .i64) (.pair (.int .i64) (.int .i64)))))) (st1.1++[(h0.getD st1.2.toNat (0,0,0,0,0,0))])),(1000,.box 3 [.int .i64 c0])] ?_
     obtain rfl:=Option.some.inj h
     exact ⟨_,rfl,zL [] [] []⟩
    ·refine zm ?_
     refine athen_n ?_
     refine AW.ops ?_
     obtain ⟨c13,h⟩:=ck_some.1 h
     refine zA [(1,.fn (.func 102) [] [.bp 1000 0]),(5,.own 20),(8,.sl (.pair (.int .i64) (.pair (.int .i64) (.pair (.int .i64) (.pair (.int .i64) (.pair (.int .i64) (.int .i64)))))) h0),(9,.int .i64 (h0.length:Int)),(10,.int .i64 (st1.2+1))] [(20,.arr 68 (.pair (.int .i64) (.pair (.int .i64) (.pair (.int .i64) (.pair (.int .i64) (.pair (.int .i64) (.int .i64)))))) st1.1),(1000,.box 3 [.int .i64 c0])] ?_
     obtain rfl:=Option.some.inj h
     exact ⟨_,rfl,zL [] [] []⟩
   ·refine AW.exit ?_
    refine athen_e ?_
    obtain rfl:=Option.some.inj h
    rw [← hd3 _ rfl] at ho2
    have h:=ho2
    refine athen_e ?_
    refine ablock_s ?_
    refine athen_n ?_
    exact AW.weaken (zL [] [] []) (hk_history_those_k1 _ h)
end Go.Proofs.Ytenchhmcjmjlbaa
