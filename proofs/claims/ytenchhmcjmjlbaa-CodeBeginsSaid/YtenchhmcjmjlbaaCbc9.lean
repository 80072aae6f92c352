import Derived.Test.YtenchhmcjmjlbaaCkp
import Derived.Test.YtenchhmcjmjlbaaShk
import Derived.Test.YtenchhmcjmjlbaaCbc1
import Derived.Test.YtenchhmcjmjlbaaCbc7
import Derived.Test.YtenchhmcjmjlbaaCbc8
namespace Go.Proofs.Ytenchhmcjmjlbaa
open Go.RowKit
set_option linter.unusedSimpArgs false
set_option linter.unusedVariables false
set_option linter.constructorNameAsVariable false
set_option maxRecDepth 100000
set_option maxHeartbeats 40000000
theorem hc_linealref01_Valid (s:Int×Int×(List (List Int))×(List (List Int))) {r:Bool} (h:linealref01_Valid s=some r):HC Try.prog 89 [] [.agg [.int .i64 s.1,.int .i64 s.2.1,.sl (.sl (.int .i64)) s.2.2.1,.sl (.sl (.int .i64)) s.2.2.2]] [] (.bool r):=by
 unfold linealref01_Valid at h
 refine zH Try.func89 [.tmp 2] 35 ?_
 refine zo ?_
 refine zB [(1,.bp 1 0)] [(1,.box 24 [.int .i64 s.1,.int .i64 s.2.1,.sl (.sl (.int .i64)) s.2.2.1,.sl (.sl (.int .i64)) s.2.2.2])] ?_
 refine zo ?_
 refine zS 4 [(1,.bp 1 0),(6,.bool (decide (1≤s.1)))] [(1,.box 24 [.int .i64 s.1,.int .i64 s.2.1,.sl (.sl (.int .i64)) s.2.2.1,.sl (.sl (.int .i64)) s.2.2.2])] ?_
 rcases zI h with ⟨hb1,h⟩|⟨hb1,h⟩
 ·refine zS 5 [(1,.bp 1 0),(11,.bool (decide (s.1≤8)))] [(1,.box 24 [.int .i64 s.1,.int .i64 s.2.1,.sl (.sl (.int .i64)) s.2.2.1,.sl (.sl (.int .i64)) s.2.2.2])] ?_
  rcases zI h with ⟨hb2,h⟩|⟨hb2,h⟩
  ·refine zS 5 [(1,.bp 1 0),(16,.bool (decide (1≤s.2.1)))] [(1,.box 24 [.int .i64 s.1,.int .i64 s.2.1,.sl (.sl (.int .i64)) s.2.2.1,.sl (.sl (.int .i64)) s.2.2.2])] ?_
   rcases zI h with ⟨hb3,h⟩|⟨hb3,h⟩
   ·refine zS 5 [(1,.bp 1 0),(21,.bool (decide (s.2.1≤4)))] [(1,.box 24 [.int .i64 s.1,.int .i64 s.2.1,.sl (.sl (.int .i64)) s.2.2.1,.sl (.sl (.int .i64)) s.2.2.2])] ?_
    rcases zI h with ⟨hb4,h⟩|⟨hb4,h⟩
    ·refine zS 5 [(1,.bp 1 0),(21,.bool true),(22,.agg [.int .i64 s.1,.int .i64 s.2.1,.sl (.sl (.int .i64)) s.2.2.1,.sl (.sl (.int .i64)) s.2.2.2]),(24,.sl (.sl (.int .i64)) s.2.2.1),(26,.int .i64 s.1)] [(1,.box 24 [.int .i64 s.1,.int .i64 s.2.1,.sl (.sl (.int .i64)) s.2.2.1,.sl (.sl (.int .i64)) s.2.2.2])] ?_
     obtain ⟨v0,hv5,h⟩:=Option.bind_eq_some_iff.1 h
     refine zG [] [] (hc_linealref01_isTable s s.2.2.1 s.1 hv5) [(1,.bp 1 0),(21,.bool true),(27,.bool v0)] [(1,.box 24 [.int .i64 s.1,.int .i64 s.2.1,.sl (.sl (.int .i64)) s.2.2.1,.sl (.sl (.int .i64)) s.2.2.2])] ?_
     refine zS 2 [(1,.bp 1 0),(29,.bool v0)] [(1,.box 24 [.int .i64 s.1,.int .i64 s.2.1,.sl (.sl (.int .i64)) s.2.2.1,.sl (.sl (.int .i64)) s.2.2.2])] ?_
     rcases zI h with ⟨hb6,h⟩|⟨hb6,h⟩
     ·refine zS 3 [(29,.bool true),(30,.agg [.int .i64 s.1,.int .i64 s.2.1,.sl (.sl (.int .i64)) s.2.2.1,.sl (.sl (.int .i64)) s.2.2.2]),(32,.sl (.sl (.int .i64)) s.2.2.2)] [] ?_
      obtain ⟨v0_2,hv7,h⟩:=Option.bind_eq_some_iff.1 h
      refine zG [] [] (hc_linealref01_isTable s s.2.2.2 6 hv7) [(29,.bool true),(33,.bool v0_2)] [] ?_
      refine zB [(2,.bool v0_2)] [] ?_
      refine AW.ret ?_
      obtain rfl:=Option.some.inj h
      exact zR [] [] []
     ·refine zS 4 [(29,.bool false),(33,.cv (undef))] [] ?_
      refine zB [(2,.bool false)] [] ?_
      refine AW.ret ?_
      obtain rfl:=Option.some.inj h
      exact zR [] [] []
    ·refine zS 4 [(1,.bp 1 0),(21,.bool false),(22,.cv (undef)),(24,.cv (undef)),(25,.cv (undef))] [(1,.box 24 [.int .i64 s.1,.int .i64 s.2.1,.sl (.sl (.int .i64)) s.2.2.1,.sl (.sl (.int .i64)) s.2.2.2])] ?_
     refine zS 5 [(1,.bp 1 0),(29,.bool false),(30,.cv (undef))] [(1,.box 24 [.int .i64 s.1,.int .i64 s.2.1,.sl (.sl (.int .i64)) s.2.2.1,.sl (.sl (.int .i64)) s.2.2.2])] ?_
     refine zB [(2,.bool false)] [] ?_
     refine AW.ret ?_
     obtain rfl:=Option.some.inj h
     exact zR [] [] []
   ·refine zS 5 [(1,.bp 1 0),(21,.bool false)] [(1,.box 24 [.int .i64 s.1,.int .i64 s.2.1,.sl (.sl (.int .i64)) s.2.2.1,.sl (.sl (.int .i64)) s.2.2.2])] ?_
    refine zS 4 [(1,.bp 1 0),(21,.bool false),(22,.cv (undef)),(24,.cv (undef)),(25,.cv (undef))] [(1,.box 24 [.int .i64 s.1,.int .i64 s.2.1,.sl (.sl (.int .i64)) s.2.2.1,.sl (.sl (.int .i64)) s.2.2.2])] ?_
    refine zS 5 [(1,.bp 1 0),(29,.bool false),(30,.cv (undef))] [(1,.box 24 [.int .i64 s.1,.int .i64 s.2.1,.sl (.sl (.int .i64)) s.2.2.1,.sl (.sl (.int .i64)) s.2.2.2])] ?_
    refine zB [(2,.bool false)] [] ?_
    refine AW.ret ?_
    obtain rfl:=Option.some.inj h
    exact zR [] [] []
  ·refine zS 5 [(1,.bp 1 0),(16,.bool false)] [(1,.box 24 [.int .i64 s.1,.int .i64 s.2.1,.sl (.sl (.int .i64)) s.2.2.1,.sl (.sl (.int .i64)) s.2.2.2])] ?_
   refine zS 5 [(1,.bp 1 0),(21,.bool false)] [(1,.box 24 [.int .i64 s.1,.int .i64 s.2.1,.sl (.sl (.int .i64)) s.2.2.1,.sl (.sl (.int .i64)) s.2.2.2])] ?_
   refine zS 4 [(1,.bp 1 0),(21,.bool false),(22,.cv (undef)),(24,.cv (undef)),(25,.cv (undef))] [(1,.box 24 [.int .i64 s.1,.int .i64 s.2.1,.sl (.sl (.int .i64)) s.2.2.1,.sl (.sl (.int .i64)) s.2.2.2])] ?_
   refine zS 5 [(1,.bp 1 0),(29,.bool false),(30,.cv (undef))] [(1,.box 24 [.int .i64 s.1,.int .i64 s.2.1,.sl (.sl (.int .i64)) s.2.2.1,.sl (.sl (.int .i64)) s.2.2.2])] ?_
   refine zB [(2,.bool false)] [] ?_
   refine AW.ret ?_
   obtain rfl:=Option.some.inj h
   exact zR [] [] []
 ·refine zS 5 [(1,.bp 1 0),(11,.bool false)] [(1,.box 24 [.int .i64 s.1,.int .i64 s.2.1,.sl (.sl (.int .i64)) s.2.2.1,.sl (.sl (.int .i64)) s.2.2.2])] ?_
  refine zS 5 [(1,.bp 1 0),(16,.bool false)] [(1,.box 24 [.int .i64 s.1,.int .i64 s.2.1,.sl (.sl (.int .i64)) s.2.2.1,.sl (.sl (.int .i64)) s.2.2.2])] ?_
  refine zS 5 [(1,.bp 1 0),(21,.bool false)] [(1,.box 24 [.int .i64 s.1,.int .i64 s.2.1,.sl (.sl (.int .i64)) s.2.2.1,.sl (.sl (.int .i64)) s.2.2.2])] ?_
  refine zS 4 [(1,.bp 1 0),(21,.bool false),(22,.cv (undef)),(24,.cv (undef)),(25,.cv (undef))] [(1,.box 24 [.int .i64 s.1,.int .i64 s.2.1,.sl (.sl (.int .i64)) s.2.2.1,.sl (.sl (.int .i64)) s.2.2.2])] ?_
  refine zS 5 [(1,.bp 1 0),(29,.bool false),(30,.cv (undef))] [(1,.box 24 [.int .i64 s.1,.int .i64 s.2.1,.sl (.sl (.int .i64)) s.2.2.1,.sl (.sl (.int .i64)) s.2.2.2])] ?_
  refine zB [(2,.bool false)] [] ?_
  refine AW.ret ?_
  obtain rfl:=Option.some.inj h
  exact zR [] [] []
theorem hc_lineallaw08_IsCase (x0:(Int×Int×(List (List Int))×(List (List Int)))×(List (List (Int×Int×Int×Int)))×(List (List Int))) {r:Bool} (h:lineallaw08_IsCase x0=some r):HC Try.prog 38 [] [.agg [.int .i64 x0.1.1,.int .i64 x0.1.2.1,.sl (.sl (.int .i64)) x0.1.2.2.1,.sl (.sl (.int .i64)) x0.1.2.2.2,.sl (.sl (.pair (.int .i64) (.pair (.int .i64) (.pair (.int .i64) (.int .i64))))) x0.2.1,.sl (.sl (.int .i64)) x0.2.2]] [] (.bool r):=by
 unfold lineallaw08_IsCase at h
 refine zH Try.func38 [.tmp 2] 32 ?_
 refine zo ?_
 refine zB [(1,.bp 1 0)] [(1,.box 27 [.int .i64 x0.1.1,.int .i64 x0.1.2.1,.sl (.sl (.int .i64)) x0.1.2.2.1,.sl (.sl (.int .i64)) x0.1.2.2.2,.sl (.sl (.pair (.int .i64) (.pair (.int .i64) (.pair (.int .i64) (.int .i64))))) x0.2.1,.sl (.sl (.int .i64)) x0.2.2])] ?_
 refine zo ?_
 refine zS 1 [(1,.bp 1 0),(3,.agg [.int .i64 x0.1.1,.int .i64 x0.1.2.1,.sl (.sl (.int .i64)) x0.1.2.2.1,.sl (.sl (.int .i64)) x0.1.2.2.2,.sl (.sl (.pair (.int .i64) (.pair (.int .i64) (.pair (.int .i64) (.int .i64))))) x0.2.1,.sl (.sl (.int .i64)) x0.2.2])] [(1,.box 27 [.int .i64 x0.1.1,.int .i64 x0.1.2.1,.sl (.sl (.int .i64)) x0.1.2.2.1,.sl (.sl (.int .i64)) x0.1.2.2.2,.sl (.sl (.pair (.int .i64) (.pair (.int .i64) (.pair (.int .i64) (.int .i64))))) x0.2.1,.sl (.sl (.int .i64)) x0.2.2])] ?_
 obtain ⟨v0,hv1,h⟩:=Option.bind_eq_some_iff.1 h
 refine zC [] [] (hc_lineallaw08_Large x0 hv1) [(1,.bp 1 0),(4,.bool v0)] [(1,.box 27 [.int .i64 x0.1.1,.int .i64 x0.1.2.1,.sl (.sl (.int .i64)) x0.1.2.2.1,.sl (.sl (.int .i64)) x0.1.2.2.2,.sl (.sl (.pair (.int .i64) (.pair (.int .i64) (.pair (.int .i64) (.int .i64))))) x0.2.1,.sl (.sl (.int .i64)) x0.2.2])] ?_
 refine zS 2 [(1,.bp 1 0),(6,.bool (!v0))] [(1,.box 27 [.int .i64 x0.1.1,.int .i64 x0.1.2.1,.sl (.sl (.int .i64)) x0.1.2.2.1,.sl (.sl (.int .i64)) x0.1.2.2.2,.sl (.sl (.pair (.int .i64) (.pair (.int .i64) (.pair (.int .i64) (.int .i64))))) x0.2.1,.sl (.sl (.int .i64)) x0.2.2])] ?_
 rcases zI h with ⟨hb2,h⟩|⟨hb2,h⟩
 ·refine zS 2 [(1,.bp 1 0),(6,.bool true),(8,.sl (.sl (.pair (.int .i64) (.pair (.int .i64) (.pair (.int .i64) (.int .i64))))) x0.2.1)] [(1,.box 27 [.int .i64 x0.1.1,.int .i64 x0.1.2.1,.sl (.sl (.int .i64)) x0.1.2.2.1,.sl (.sl (.int .i64)) x0.1.2.2.2,.sl (.sl (.pair (.int .i64) (.pair (.int .i64) (.pair (.int .i64) (.int .i64))))) x0.2.1,.sl (.sl (.int .i64)) x0.2.2])] ?_
  obtain ⟨v0_2,hv3,h⟩:=Option.bind_eq_some_iff.1 h
  refine zG [] [] (hc_linealref08_Valid x0.2.1 hv3) [(1,.bp 1 0),(6,.bool true),(9,.bool v0_2)] [(1,.box 27 [.int .i64 x0.1.1,.int .i64 x0.1.2.1,.sl (.sl (.int .i64)) x0.1.2.2.1,.sl (.sl (.int .i64)) x0.1.2.2.2,.sl (.sl (.pair (.int .i64) (.pair (.int .i64) (.pair (.int .i64) (.int .i64))))) x0.2.1,.sl (.sl (.int .i64)) x0.2.2])] ?_
  refine zS 2 [(1,.bp 1 0),(11,.bool v0_2)] [(1,.box 27 [.int .i64 x0.1.1,.int .i64 x0.1.2.1,.sl (.sl (.int .i64)) x0.1.2.2.1,.sl (.sl (.int .i64)) x0.1.2.2.2,.sl (.sl (.pair (.int .i64) (.pair (.int .i64) (.pair (.int .i64) (.int .i64))))) x0.2.1,.sl (.sl (.int .i64)) x0.2.2])] ?_
  rcases zI h with ⟨hb4,h⟩|⟨hb4,h⟩
  ·refine zS 2 [(1,.bp 1 0),(11,.bool true),(13,.agg [.int .i64 x0.1.1,.int .i64 x0.1.2.1,.sl (.sl (.int .i64)) x0.1.2.2.1,.sl (.sl (.int .i64)) x0.1.2.2.2])] [(1,.box 27 [.int .i64 x0.1.1,.int .i64 x0.1.2.1,.sl (.sl (.int .i64)) x0.1.2.2.1,.sl (.sl (.int .i64)) x0.1.2.2.2,.sl (.sl (.pair (.int .i64) (.pair (.int .i64) (.pair (.int .i64) (.int .i64))))) x0.2.1,.sl (.sl (.int .i64)) x0.2.2])] ?_
   obtain ⟨v0_3,hv5,h⟩:=Option.bind_eq_some_iff.1 h
   refine zG [] [] (hc_linealref01_Valid x0.1 hv5) [(1,.bp 1 0),(11,.bool true),(14,.bool v0_3)] [(1,.box 27 [.int .i64 x0.1.1,.int .i64 x0.1.2.1,.sl (.sl (.int .i64)) x0.1.2.2.1,.sl (.sl (.int .i64)) x0.1.2.2.2,.sl (.sl (.pair (.int .i64) (.pair (.int .i64) (.pair (.int .i64) (.int .i64))))) x0.2.1,.sl (.sl (.int .i64)) x0.2.2])] ?_
   refine zS 2 [(1,.bp 1 0),(16,.bool v0_3)] [(1,.box 27 [.int .i64 x0.1.1,.int .i64 x0.1.2.1,.sl (.sl (.int .i64)) x0.1.2.2.1,.sl (.sl (.int .i64)) x0.1.2.2.2,.sl (.sl (.pair (.int .i64) (.pair (.int .i64) (.pair (.int .i64) (.int .i64))))) x0.2.1,.sl (.sl (.int .i64)) x0.2.2])] ?_
   rcases zI h with ⟨hb6,h⟩|⟨hb6,h⟩
   ·refine zS 5 [(1,.bp 1 0),(16,.bool true),(19,.int .i64 x0.1.2.1),(21,.sl (.sl (.pair (.int .i64) (.pair (.int .i64) (.pair (.int .i64) (.int .i64))))) x0.2.1)] [(1,.box 27 [.int .i64 x0.1.1,.int .i64 x0.1.2.1,.sl (.sl (.int .i64)) x0.1.2.2.1,.sl (.sl (.int .i64)) x0.1.2.2.2,.sl (.sl (.pair (.int .i64) (.pair (.int .i64) (.pair (.int .i64) (.int .i64))))) x0.2.1,.sl (.sl (.int .i64)) x0.2.2])] ?_
    refine zS 4 [(1,.bp 1 0),(25,.bool (decide (x0.1.2.1=(x0.2.1.length:Int))))] [(1,.box 27 [.int .i64 x0.1.1,.int .i64 x0.1.2.1,.sl (.sl (.int .i64)) x0.1.2.2.1,.sl (.sl (.int .i64)) x0.1.2.2.2,.sl (.sl (.pair (.int .i64) (.pair (.int .i64) (.pair (.int .i64) (.int .i64))))) x0.2.1,.sl (.sl (.int .i64)) x0.2.2])] ?_
    rcases zI h with ⟨hb7,h⟩|⟨hb7,h⟩
    ·refine zS 4 [(25,.bool true),(27,.sl (.sl (.pair (.int .i64) (.pair (.int .i64) (.pair (.int .i64) (.int .i64))))) x0.2.1),(29,.sl (.sl (.int .i64)) x0.2.2)] [] ?_
     obtain ⟨v0_4,hv8,h⟩:=Option.bind_eq_some_iff.1 h
     refine zG [] [] (hc_linealref08_IsUse x0.2.1 x0.2.2 hv8) [(25,.bool true),(30,.bool v0_4)] [] ?_
     refine zB [(2,.bool v0_4)] [] ?_
     refine AW.ret ?_
     obtain rfl:=Option.some.inj h
     exact zR [] [] []
    ·refine zS 4 [(25,.bool false),(27,.cv (undef)),(29,.cv (undef))] [] ?_
     refine zB [(2,.bool false)] [] ?_
     refine AW.ret ?_
     obtain rfl:=Option.some.inj h
     exact zR [] [] []
   ·refine zS 4 [(1,.bp 1 0),(16,.bool false),(19,.cv (undef)),(20,.cv (undef))] [(1,.box 27 [.int .i64 x0.1.1,.int .i64 x0.1.2.1,.sl (.sl (.int .i64)) x0.1.2.2.1,.sl (.sl (.int .i64)) x0.1.2.2.2,.sl (.sl (.pair (.int .i64) (.pair (.int .i64) (.pair (.int .i64) (.int .i64))))) x0.2.1,.sl (.sl (.int .i64)) x0.2.2])] ?_
    refine zS 5 [(1,.bp 1 0),(25,.bool false)] [(1,.box 27 [.int .i64 x0.1.1,.int .i64 x0.1.2.1,.sl (.sl (.int .i64)) x0.1.2.2.1,.sl (.sl (.int .i64)) x0.1.2.2.2,.sl (.sl (.pair (.int .i64) (.pair (.int .i64) (.pair (.int .i64) (.int .i64))))) x0.2.1,.sl (.sl (.int .i64)) x0.2.2])] ?_
    refine zS 4 [(25,.bool false),(27,.cv (undef)),(29,.cv (undef))] [] ?_
    refine zB [(2,.bool false)] [] ?_
    refine AW.ret ?_
    obtain rfl:=Option.some.inj h
    exact zR [] [] []
  ·refine zS 5 [(1,.bp 1 0),(16,.bool false)] [(1,.box 27 [.int .i64 x0.1.1,.int .i64 x0.1.2.1,.sl (.sl (.int .i64)) x0.1.2.2.1,.sl (.sl (.int .i64)) x0.1.2.2.2,.sl (.sl (.pair (.int .i64) (.pair (.int .i64) (.pair (.int .i64) (.int .i64))))) x0.2.1,.sl (.sl (.int .i64)) x0.2.2])] ?_
   refine zS 4 [(1,.bp 1 0),(16,.bool false),(19,.cv (undef)),(20,.cv (undef))] [(1,.box 27 [.int .i64 x0.1.1,.int .i64 x0.1.2.1,.sl (.sl (.int .i64)) x0.1.2.2.1,.sl (.sl (.int .i64)) x0.1.2.2.2,.sl (.sl (.pair (.int .i64) (.pair (.int .i64) (.pair (.int .i64) (.int .i64))))) x0.2.1,.sl (.sl (.int .i64)) x0.2.2])] ?_
   refine zS 5 [(1,.bp 1 0),(25,.bool false)] [(1,.box 27 [.int .i64 x0.1.1,.int .i64 x0.1.2.1,.sl (.sl (.int .i64)) x0.1.2.2.1,.sl (.sl (.int .i64)) x0.1.2.2.2,.sl (.sl (.pair (.int .i64) (.pair (.int .i64) (.pair (.int .i64) (.int .i64))))) x0.2.1,.sl (.sl (.int .i64)) x0.2.2])] ?_
   refine zS 4 [(25,.bool false),(27,.cv (undef)),(29,.cv (undef))] [] ?_
   refine zB [(2,.bool false)] [] ?_
   refine AW.ret ?_
   obtain rfl:=Option.some.inj h
   exact zR [] [] []
 ·refine zS 5 [(1,.bp 1 0),(11,.bool false)] [(1,.box 27 [.int .i64 x0.1.1,.int .i64 x0.1.2.1,.sl (.sl (.int .i64)) x0.1.2.2.1,.sl (.sl (.int .i64)) x0.1.2.2.2,.sl (.sl (.pair (.int .i64) (.pair (.int .i64) (.pair (.int .i64) (.int .i64))))) x0.2.1,.sl (.sl (.int .i64)) x0.2.2])] ?_
  refine zS 5 [(1,.bp 1 0),(16,.bool false)] [(1,.box 27 [.int .i64 x0.1.1,.int .i64 x0.1.2.1,.sl (.sl (.int .i64)) x0.1.2.2.1,.sl (.sl (.int .i64)) x0.1.2.2.2,.sl (.sl (.pair (.int .i64) (.pair (.int .i64) (.pair (.int .i64) (.int .i64))))) x0.2.1,.sl (.sl (.int .i64)) x0.2.2])] ?_
  refine zS 4 [(1,.bp 1 0),(16,.bool false),(19,.cv (undef)),(20,.cv (undef))] [(1,.box 27 [.int .i64 x0.1.1,.int .i64 x0.1.2.1,.sl (.sl (.int .i64)) x0.1.2.2.1,.sl (.sl (.int .i64)) x0.1.2.2.2,.sl (.sl (.pair (.int .i64) (.pair (.int .i64) (.pair (.int .i64) (.int .i64))))) x0.2.1,.sl (.sl (.int .i64)) x0.2.2])] ?_
  refine zS 5 [(1,.bp 1 0),(25,.bool false)] [(1,.box 27 [.int .i64 x0.1.1,.int .i64 x0.1.2.1,.sl (.sl (.int .i64)) x0.1.2.2.1,.sl (.sl (.int .i64)) x0.1.2.2.2,.sl (.sl (.pair (.int .i64) (.pair (.int .i64) (.pair (.int .i64) (.int .i64))))) x0.2.1,.sl (.sl (.int .i64)) x0.2.2])] ?_
  refine zS 4 [(25,.bool false),(27,.cv (undef)),(29,.cv (undef))] [] ?_
  refine zB [(2,.bool false)] [] ?_
  refine AW.ret ?_
  obtain rfl:=Option.some.inj h
  exact zR [] [] []
theorem hc_lineallaw08_schedule (x0:(Int×Int×(List (List Int))×(List (List Int)))×(List (List (Int×Int×Int×Int)))×(List (List Int))) (picks:List Int) (steps:Int) {r:(List Int)×Bool×Bool} (h:lineallaw08_schedule x0 picks steps=some r):HC Try.prog 42 [] [.agg [.int .i64 x0.1.1,.int .i64 x0.1.2.1,.sl (.sl (.int .i64)) x0.1.2.2.1,.sl (.sl (.int .i64)) x0.1.2.2.2,.sl (.sl (.pair (.int .i64) (.pair (.int .i64) (.pair (.int .i64) (.int .i64))))) x0.2.1,.sl (.sl (.int .i64)) x0.2.2],.sl (.int .u8) picks,.int .i64 steps] [(2000,.arr 3 (.int .i64) r.1)] (.tup [.own 2000,.bool r.2.1,.bool r.2.2]):=by
 unfold lineallaw08_schedule at h
 refine zH Try.func42 [.tmp 6,.tmp 7,.tmp 8] 81 ?_
 refine zo ?_
 refine zB [(1,.sl (.int .u8) picks),(2,.int .i64 steps),(3,.bp 3 0),(6,.cv (.slice none 0 0))] [(3,.box 27 [.int .i64 x0.1.1,.int .i64 x0.1.2.1,.sl (.sl (.int .i64)) x0.1.2.2.1,.sl (.sl (.int .i64)) x0.1.2.2.2,.sl (.sl (.pair (.int .i64) (.pair (.int .i64) (.pair (.int .i64) (.int .i64))))) x0.2.1,.sl (.sl (.int .i64)) x0.2.2])] ?_
 refine AW.have1 (fun b2_2:(List Int)=>lineallaw08_schedule_k1 x0 b2_2=some r) (fun b2_2=>⟨fr [(3,.bp 3 0),(6,.own 65)],hpGet [(3,.box 27 [.int .i64 x0.1.1,.int .i64 x0.1.2.1,.sl (.sl (.int .i64)) x0.1.2.2.1,.sl (.sl (.int .i64)) x0.1.2.2.2,.sl (.sl (.pair (.int .i64) (.pair (.int .i64) (.pair (.int .i64) (.int .i64))))) x0.2.1,.sl (.sl (.int .i64)) x0.2.2]),(65,.arr 3 (.int .i64) b2_2)],gt⟩) (fun b2_2 h=>?_) (fun hk_lineallaw08_schedule_k1=>?_)
 ·as_aux_lemma =>
   unfold lineallaw08_schedule_k1 at h
   refine zo ?_
   refine zS 5 [(6,.own 65),(68,.sl (.sl (.pair (.int .i64) (.pair (.int .i64) (.pair (.int .i64) (.int .i64))))) x0.2.1),(70,.sl (.sl (.int .i64)) x0.2.2),(71,.own 65)] [(65,.arr 3 (.int .i64) b2_2)] ?_
   obtain ⟨v0_2,hv1,h⟩:=Option.bind_eq_some_iff.1 h
   refine zC [65] [] (hc_code_Left x0.2.1 x0.2.2 b2_2 hv1) [(6,.own 65),(72,.tup [.own 82000,.int .i64 v0_2.2])] [(65,.arr 3 (.int .i64) b2_2),(82000,.arr 3 (.int .i64) v0_2.1)] ?_
   refine zB [(6,.own 65),(13,.own 82000),(14,.int .i64 v0_2.2)] [(65,.arr 3 (.int .i64) b2_2),(82000,.arr 3 (.int .i64) v0_2.1)] ?_
   refine zo ?_
   refine zS 5 [(75,.own 65),(78,.bool (decide ((v0_2.1.length:Int)=0))),(79,.int .i64 v0_2.2)] [(65,.arr 3 (.int .i64) b2_2)] ?_
   refine zB [(6,.own 65),(7,.bool (decide ((v0_2.1.length:Int)=0))),(8,.bool (decide (v0_2.2=0)))] [(65,.arr 3 (.int .i64) b2_2)] ?_
   refine AW.ret ?_
   obtain rfl:=Option.some.inj h
   exact zR [] [] [(2000,65)]
 ·refine AW.seq ?_
  refine zo ?_
  refine zB [(1,.sl (.int .u8) picks),(2,.int .i64 steps),(3,.bp 3 0),(6,.cv (.slice none 0 0)),(9,.int .i64 0)] [(3,.box 27 [.int .i64 x0.1.1,.int .i64 x0.1.2.1,.sl (.sl (.int .i64)) x0.1.2.2.1,.sl (.sl (.int .i64)) x0.1.2.2.2,.sl (.sl (.pair (.int .i64) (.pair (.int .i64) (.pair (.int .i64) (.int .i64))))) x0.2.1,.sl (.sl (.int .i64)) x0.2.2])] ?_
  refine AW.block ?_
  obtain ⟨rv6,hw2,ho3⟩:=Option.bind_eq_some_iff.1 h
  refine AW.loopO (lineallaw08_schedule_b1 x0 picks steps) (fun st1=>⟨fr [(1,.sl (.int .u8) picks),(2,.int .i64 steps),(3,.bp 3 0),(6,.own 65),(9,.int .i64 st1.2)],hpGet [(3,.box 27 [.int .i64 x0.1.1,.int .i64 x0.1.2.1,.sl (.sl (.int .i64)) x0.1.2.2.1,.sl (.sl (.int .i64)) x0.1.2.2.2,.sl (.sl (.pair (.int .i64) (.pair (.int .i64) (.pair (.int .i64) (.int .i64))))) x0.2.1,.sl (.sl (.int .i64)) x0.2.2]),(65,.arr 3 (.int .i64) st1.1)],gt⟩) ([],0) hw2 (zL [] [65] []) ?_
  as_aux_lemma =>
   intro st1 x5 h hd4
   unfold lineallaw08_schedule_b1 at h
   refine AW.seq ?_
   refine zo ?_
   refine zB [(1,.sl (.int .u8) picks),(2,.int .i64 steps),(3,.bp 3 0),(6,.own 65),(9,.int .i64 st1.2),(17,.bool (decide (st1.2<steps)))] [(3,.box 27 [.int .i64 x0.1.1,.int .i64 x0.1.2.1,.sl (.sl (.int .i64)) x0.1.2.2.1,.sl (.sl (.int .i64)) x0.1.2.2.2,.sl (.sl (.pair (.int .i64) (.pair (.int .i64) (.pair (.int .i64) (.int .i64))))) x0.2.1,.sl (.sl (.int .i64)) x0.2.2]),(65,.arr 3 (.int .i64) st1.1)] ?_
   refine zQ h (fun hb7 h=>?_) (fun hb7 h=>?_)
   ·refine zk ?_
    refine AW.seq ?_
    refine AW.block ?_
    refine zo ?_
    refine zS 5 [(1,.sl (.int .u8) picks),(2,.int .i64 steps),(3,.bp 3 0),(6,.own 65),(9,.int .i64 st1.2),(22,.sl (.sl (.pair (.int .i64) (.pair (.int .i64) (.pair (.int .i64) (.int .i64))))) x0.2.1),(24,.sl (.sl (.int .i64)) x0.2.2),(25,.own 65)] [(3,.box 27 [.int .i64 x0.1.1,.int .i64 x0.1.2.1,.sl (.sl (.int .i64)) x0.1.2.2.1,.sl (.sl (.int .i64)) x0.1.2.2.2,.sl (.sl (.pair (.int .i64) (.pair (.int .i64) (.pair (.int .i64) (.int .i64))))) x0.2.1,.sl (.sl (.int .i64)) x0.2.2]),(65,.arr 3 (.int .i64) st1.1)] ?_
    obtain ⟨v0,hv8,h⟩:=Option.bind_eq_some_iff.1 h
    refine zC [65] [] (hc_code_Left x0.2.1 x0.2.2 st1.1 hv8) [(1,.sl (.int .u8) picks),(2,.int .i64 steps),(3,.bp 3 0),(6,.own 65),(9,.int .i64 st1.2),(26,.tup [.own 36000,.int .i64 v0.2])] [(3,.box 27 [.int .i64 x0.1.1,.int .i64 x0.1.2.1,.sl (.sl (.int .i64)) x0.1.2.2.1,.sl (.sl (.int .i64)) x0.1.2.2.2,.sl (.sl (.pair (.int .i64) (.pair (.int .i64) (.pair (.int .i64) (.int .i64))))) x0.2.1,.sl (.sl (.int .i64)) x0.2.2]),(65,.arr 3 (.int .i64) st1.1),(36000,.arr 3 (.int .i64) v0.1)] ?_
    refine zB [(1,.sl (.int .u8) picks),(2,.int .i64 steps),(3,.bp 3 0),(6,.own 65),(9,.int .i64 st1.2),(10,.own 36000),(11,.int .i64 v0.2)] [(3,.box 27 [.int .i64 x0.1.1,.int .i64 x0.1.2.1,.sl (.sl (.int .i64)) x0.1.2.2.1,.sl (.sl (.int .i64)) x0.1.2.2.2,.sl (.sl (.pair (.int .i64) (.pair (.int .i64) (.pair (.int .i64) (.int .i64))))) x0.2.1,.sl (.sl (.int .i64)) x0.2.2]),(65,.arr 3 (.int .i64) st1.1),(36000,.arr 3 (.int .i64) v0.1)] ?_
    refine AW.seq ?_
    refine zo ?_
    refine zB [(1,.sl (.int .u8) picks),(2,.int .i64 steps),(3,.bp 3 0),(6,.own 65),(9,.int .i64 st1.2),(10,.own 36000),(30,.bool (!(decide (v0.2=0))))] [(3,.box 27 [.int .i64 x0.1.1,.int .i64 x0.1.2.1,.sl (.sl (.int .i64)) x0.1.2.2.1,.sl (.sl (.int .i64)) x0.1.2.2.2,.sl (.sl (.pair (.int .i64) (.pair (.int .i64) (.pair (.int .i64) (.int .i64))))) x0.2.1,.sl (.sl (.int .i64)) x0.2.2]),(65,.arr 3 (.int .i64) st1.1),(36000,.arr 3 (.int .i64) v0.1)] ?_
    refine zQ h (fun hb9 h=>?_) (fun hb9 h=>?_)
    ·refine zo ?_
     refine zB [(6,.cv (.slice none 0 0)),(7,.bool false),(8,.bool false)] [] ?_
     refine zr ?_
     refine ablock_r ?_
     refine athen_r ?_
     obtain rfl:=Option.some.inj h
     rw [← hd4 _ rfl] at ho3
     have h:=ho3
     try simp only at h
     refine athen_r ?_
     refine ablock_r ?_
     refine athen_r ?_
     obtain rfl:=Option.some.inj h
     exact zR [] [2000] []
    ·refine zk ?_
     refine AW.seq ?_
     refine zo ?_
     refine zB [(1,.sl (.int .u8) picks),(2,.int .i64 steps),(3,.bp 3 0),(6,.own 65),(9,.int .i64 st1.2),(10,.own 36000),(33,.bool (decide ((v0.1.length:Int)=0)))] [(3,.box 27 [.int .i64 x0.1.1,.int .i64 x0.1.2.1,.sl (.sl (.int .i64)) x0.1.2.2.1,.sl (.sl (.int .i64)) x0.1.2.2.2,.sl (.sl (.pair (.int .i64) (.pair (.int .i64) (.pair (.int .i64) (.int .i64))))) x0.2.1,.sl (.sl (.int .i64)) x0.2.2]),(65,.arr 3 (.int .i64) st1.1),(36000,.arr 3 (.int .i64) v0.1)] ?_
     refine zQ h (fun hb10 h=>?_) (fun hb10 h=>?_)
     ·refine zo ?_
      refine zB [(6,.own 65),(7,.bool true),(8,.bool true)] [(65,.arr 3 (.int .i64) st1.1)] ?_
      refine zr ?_
      refine ablock_r ?_
      refine athen_r ?_
      obtain rfl:=Option.some.inj h
      rw [← hd4 _ rfl] at ho3
      have h:=ho3
      try simp only at h
      refine athen_r ?_
      refine ablock_r ?_
      refine athen_r ?_
      obtain rfl:=Option.some.inj h
      exact zR [] [] [(2000,65)]
     ·refine zk ?_
      refine zo ?_
      obtain ⟨c11,h⟩:=ck_some.1 h
      refine zB [(1,.sl (.int .u8) picks),(2,.int .i64 steps),(3,.bp 3 0),(6,.own 65),(9,.int .i64 st1.2),(10,.own 36000),(12,.int .i64 (v0.1.getD 0 0))] [(3,.box 27 [.int .i64 x0.1.1,.int .i64 x0.1.2.1,.sl (.sl (.int .i64)) x0.1.2.2.1,.sl (.sl (.int .i64)) x0.1.2.2.2,.sl (.sl (.pair (.int .i64) (.pair (.int .i64) (.pair (.int .i64) (.int .i64))))) x0.2.1,.sl (.sl (.int .i64)) x0.2.2]),(65,.arr 3 (.int .i64) st1.1),(36000,.arr 3 (.int .i64) v0.1)] ?_
      refine AW.have1 (fun b2:Int=>lineallaw08_schedule_k2 x0 st1 b2=some x5) (fun b2=>⟨fr [(1,.sl (.int .u8) picks),(2,.int .i64 steps),(3,.bp 3 0),(6,.own 65),(9,.int .i64 st1.2),(12,.int .i64 b2)],hpGet [(3,.box 27 [.int .i64 x0.1.1,.int .i64 x0.1.2.1,.sl (.sl (.int .i64)) x0.1.2.2.1,.sl (.sl (.int .i64)) x0.1.2.2.2,.sl (.sl (.pair (.int .i64) (.pair (.int .i64) (.pair (.int .i64) (.int .i64))))) x0.2.1,.sl (.sl (.int .i64)) x0.2.2]),(65,.arr 3 (.int .i64) st1.1)],gt⟩) (fun b2 h=>?_) (fun hk_lineallaw08_schedule_k2=>?_)
      ·as_aux_lemma =>
        unfold lineallaw08_schedule_k2 at h
        refine AW.seq ?_
        refine zo ?_
        refine zS 3 [(1,.sl (.int .u8) picks),(2,.int .i64 steps),(3,.bp 3 0),(6,.own 65),(9,.int .i64 st1.2),(12,.int .i64 b2),(55,.bool (decide (b2<0)))] [(3,.box 27 [.int .i64 x0.1.1,.int .i64 x0.1.2.1,.sl (.sl (.int .i64)) x0.1.2.2.1,.sl (.sl (.int .i64)) x0.1.2.2.2,.sl (.sl (.pair (.int .i64) (.pair (.int .i64) (.pair (.int .i64) (.int .i64))))) x0.2.1,.sl (.sl (.int .i64)) x0.2.2]),(65,.arr 3 (.int .i64) st1.1)] ?_
        rcases zI h with ⟨hb12,h⟩|⟨hb12,h⟩
        ·refine zS 4 [(1,.sl (.int .u8) picks),(2,.int .i64 steps),(3,.bp 3 0),(6,.own 65),(9,.int .i64 st1.2),(12,.int .i64 b2),(55,.bool true),(56,.cv (undef)),(59,.cv (undef))] [(3,.box 27 [.int .i64 x0.1.1,.int .i64 x0.1.2.1,.sl (.sl (.int .i64)) x0.1.2.2.1,.sl (.sl (.int .i64)) x0.1.2.2.2,.sl (.sl (.pair (.int .i64) (.pair (.int .i64) (.pair (.int .i64) (.int .i64))))) x0.2.1,.sl (.sl (.int .i64)) x0.2.2]),(65,.arr 3 (.int .i64) st1.1)] ?_
         refine zB [(1,.sl (.int .u8) picks),(2,.int .i64 steps),(3,.bp 3 0),(6,.own 65),(9,.int .i64 st1.2),(12,.int .i64 b2),(61,.bool true)] [(3,.box 27 [.int .i64 x0.1.1,.int .i64 x0.1.2.1,.sl (.sl (.int .i64)) x0.1.2.2.1,.sl (.sl (.int .i64)) x0.1.2.2.2,.sl (.sl (.pair (.int .i64) (.pair (.int .i64) (.pair (.int .i64) (.int .i64))))) x0.2.1,.sl (.sl (.int .i64)) x0.2.2]),(65,.arr 3 (.int .i64) st1.1)] ?_
         refine AW.cond (b:=true) rfl (fun _=>?_) (fun hb13=>by cases hb13)
         refine zo ?_
         refine zB [(6,.cv (.slice none 0 0)),(7,.bool false),(8,.bool false)] [] ?_
         refine zr ?_
         refine ablock_r ?_
         refine athen_r ?_
         obtain rfl:=Option.some.inj h
         rw [← hd4 _ rfl] at ho3
         have h:=ho3
         try simp only at h
         refine athen_r ?_
         refine ablock_r ?_
         refine athen_r ?_
         obtain rfl:=Option.some.inj h
         exact zR [] [2000] []
        ·refine zS 5 [(1,.sl (.int .u8) picks),(2,.int .i64 steps),(3,.bp 3 0),(6,.own 65),(9,.int .i64 st1.2),(12,.int .i64 b2),(55,.bool false),(60,.bool (decide ((x0.2.2.length:Int)≤b2)))] [(3,.box 27 [.int .i64 x0.1.1,.int .i64 x0.1.2.1,.sl (.sl (.int .i64)) x0.1.2.2.1,.sl (.sl (.int .i64)) x0.1.2.2.2,.sl (.sl (.pair (.int .i64) (.pair (.int .i64) (.pair (.int .i64) (.int .i64))))) x0.2.1,.sl (.sl (.int .i64)) x0.2.2]),(65,.arr 3 (.int .i64) st1.1)] ?_
         refine zB [(1,.sl (.int .u8) picks),(2,.int .i64 steps),(3,.bp 3 0),(6,.own 65),(9,.int .i64 st1.2),(12,.int .i64 b2),(61,.bool (decide ((x0.2.2.length:Int)≤b2)))] [(3,.box 27 [.int .i64 x0.1.1,.int .i64 x0.1.2.1,.sl (.sl (.int .i64)) x0.1.2.2.1,.sl (.sl (.int .i64)) x0.1.2.2.2,.sl (.sl (.pair (.int .i64) (.pair (.int .i64) (.pair (.int .i64) (.int .i64))))) x0.2.1,.sl (.sl (.int .i64)) x0.2.2]),(65,.arr 3 (.int .i64) st1.1)] ?_
         refine zQ h (fun hb14 h=>?_) (fun hb14 h=>?_)
         ·refine zo ?_
          refine zB [(6,.cv (.slice none 0 0)),(7,.bool false),(8,.bool false)] [] ?_
          refine zr ?_
          refine ablock_r ?_
          refine athen_r ?_
          obtain rfl:=Option.some.inj h
          rw [← hd4 _ rfl] at ho3
          have h:=ho3
          try simp only at h
          refine athen_r ?_
          refine ablock_r ?_
          refine athen_r ?_
          obtain rfl:=Option.some.inj h
          exact zR [] [2000] []
         ·refine zk ?_
          refine AW.ops ?_
          obtain ⟨c15,h⟩:=ck_some.1 h
          refine zA [(1,.sl (.int .u8) picks),(2,.int .i64 steps),(3,.bp 3 0),(6,.own 65),(9,.int .i64 st1.2)] [(3,.box 27 [.int .i64 x0.1.1,.int .i64 x0.1.2.1,.sl (.sl (.int .i64)) x0.1.2.2.1,.sl (.sl (.int .i64)) x0.1.2.2.2,.sl (.sl (.pair (.int .i64) (.pair (.int .i64) (.pair (.int .i64) (.int .i64))))) x0.2.1,.sl (.sl (.int .i64)) x0.2.2]),(65,.arr 3 (.int .i64) (st1.1++[b2]))] ?_
          refine ablock_n ?_
          refine athen_n ?_
          refine AW.ops ?_
          obtain ⟨c16,h⟩:=ck_some.1 h
          refine zA [(1,.sl (.int .u8) picks),(2,.int .i64 steps),(3,.bp 3 0),(6,.own 65),(9,.int .i64 (st1.2+1))] [(3,.box 27 [.int .i64 x0.1.1,.int .i64 x0.1.2.1,.sl (.sl (.int .i64)) x0.1.2.2.1,.sl (.sl (.int .i64)) x0.1.2.2.2,.sl (.sl (.pair (.int .i64) (.pair (.int .i64) (.pair (.int .i64) (.int .i64))))) x0.2.1,.sl (.sl (.int .i64)) x0.2.2]),(65,.arr 3 (.int .i64) (st1.1++[b2]))] ?_
          obtain rfl:=Option.some.inj h
          exact ⟨_,rfl,zL [] [] []⟩
      ·refine AW.seq ?_
       refine zo ?_
       refine zB [(1,.sl (.int .u8) picks),(2,.int .i64 steps),(3,.bp 3 0),(6,.own 65),(9,.int .i64 st1.2),(10,.own 36000),(12,.int .i64 (v0.1.getD 0 0)),(41,.bool (decide (st1.2<(picks.length:Int))))] [(3,.box 27 [.int .i64 x0.1.1,.int .i64 x0.1.2.1,.sl (.sl (.int .i64)) x0.1.2.2.1,.sl (.sl (.int .i64)) x0.1.2.2.2,.sl (.sl (.pair (.int .i64) (.pair (.int .i64) (.pair (.int .i64) (.int .i64))))) x0.2.1,.sl (.sl (.int .i64)) x0.2.2]),(65,.arr 3 (.int .i64) st1.1),(36000,.arr 3 (.int .i64) v0.1)] ?_
       refine zQ h (fun hb17 h=>?_) (fun hb17 h=>?_)
       ·refine AW.ops ?_
        obtain ⟨c18,h⟩:=ck_some.1 h
        obtain ⟨c19,h⟩:=ck_some.1 h
        refine zS 5 [(1,.sl (.int .u8) picks),(2,.int .i64 steps),(3,.bp 3 0),(6,.own 65),(9,.int .i64 st1.2),(10,.own 36000),(42,.own 36000),(46,.int .u8 (picks.getD st1.2.toNat 0))] [(3,.box 27 [.int .i64 x0.1.1,.int .i64 x0.1.2.1,.sl (.sl (.int .i64)) x0.1.2.2.1,.sl (.sl (.int .i64)) x0.1.2.2.2,.sl (.sl (.pair (.int .i64) (.pair (.int .i64) (.pair (.int .i64) (.int .i64))))) x0.2.1,.sl (.sl (.int .i64)) x0.2.2]),(65,.arr 3 (.int .i64) st1.1),(36000,.arr 3 (.int .i64) v0.1)] ?_
        obtain ⟨c20,h⟩:=ck_some.1 h
        obtain ⟨c21,h⟩:=ck_some.1 h
        obtain ⟨c22,h⟩:=ck_some.1 h
        obtain ⟨c23,h⟩:=ck_some.1 h
        obtain ⟨c24,h⟩:=ck_some.1 h
        refine zS 5 [(1,.sl (.int .u8) picks),(2,.int .i64 steps),(3,.bp 3 0),(6,.own 65),(9,.int .i64 st1.2),(51,.ap 36000 1 ((picks.getD st1.2.toNat 0) % (v0.1.length:Int)).toNat 0)] [(3,.box 27 [.int .i64 x0.1.1,.int .i64 x0.1.2.1,.sl (.sl (.int .i64)) x0.1.2.2.1,.sl (.sl (.int .i64)) x0.1.2.2.2,.sl (.sl (.pair (.int .i64) (.pair (.int .i64) (.pair (.int .i64) (.int .i64))))) x0.2.1,.sl (.sl (.int .i64)) x0.2.2]),(65,.arr 3 (.int .i64) st1.1),(36000,.arr 3 (.int .i64) v0.1)] ?_
        refine zB [(1,.sl (.int .u8) picks),(2,.int .i64 steps),(3,.bp 3 0),(6,.own 65),(9,.int .i64 st1.2),(12,.int .i64 (v0.1.getD ((picks.getD st1.2.toNat 0) % (v0.1.length:Int)).toNat 0))] [(3,.box 27 [.int .i64 x0.1.1,.int .i64 x0.1.2.1,.sl (.sl (.int .i64)) x0.1.2.2.1,.sl (.sl (.int .i64)) x0.1.2.2.2,.sl (.sl (.pair (.int .i64) (.pair (.int .i64) (.pair (.int .i64) (.int .i64))))) x0.2.1,.sl (.sl (.int .i64)) x0.2.2]),(65,.arr 3 (.int .i64) st1.1)] ?_
        exact AW.weaken (zL [] [] []) (hk_lineallaw08_schedule_k2 _ h)
       ·refine zk ?_
        exact AW.weaken (zL [] [] []) (hk_lineallaw08_schedule_k2 _ h)
   ·refine AW.exit ?_
    refine athen_e ?_
    obtain rfl:=Option.some.inj h
    rw [← hd4 _ rfl] at ho3
    have h:=ho3
    try simp only at h
    refine athen_e ?_
    refine ablock_s ?_
    refine athen_n ?_
    exact AW.weaken (zL [] [] []) (hk_lineallaw08_schedule_k1 _ h)
theorem hc_history_within (n:Int) (least:Int) (most:Int) {r:Bool} (h:history_within n least most=some r):HC Try.prog 99 [] [.int .i64 n,.int .i64 least,.int .i64 most] [] (.bool r):=by
 unfold history_within at h
 refine zH Try.func99 [.tmp 6] 15 ?_
 refine zo ?_
 refine zB [(0,.int .i64 n),(1,.int .i64 least),(2,.int .i64 most)] [] ?_
 refine zo ?_
 refine zS 4 [(0,.int .i64 n),(2,.int .i64 most),(10,.bool (decide (least≤n)))] [] ?_
 rcases zI h with ⟨hb1,h⟩|⟨hb1,h⟩
 ·refine zB [(6,.bool (decide (n≤most)))] [] ?_
  refine AW.ret ?_
  obtain rfl:=Option.some.inj h
  exact zR [] [] []
 ·refine zB [(6,.bool false)] [] ?_
  refine AW.ret ?_
  obtain rfl:=Option.some.inj h
  exact zR [] [] []
theorem hc_history_isCall (c:Int×Int×Int×Int×Int×Int) {r:Bool} (h:history_isCall c=some r):HC Try.prog 176 [] [.agg [.int .i64 c.1,.int .i64 c.2.1,.int .i64 c.2.2.1,.int .i64 c.2.2.2.1,.int .i64 c.2.2.2.2.1,.int .i64 c.2.2.2.2.2]] [] (.bool r):=by
 unfold history_isCall at h
 refine zH Try.func176 [.tmp 2] 52 ?_
 refine zo ?_
 refine zB [(1,.bp 1 0)] [(1,.box 68 [.int .i64 c.1,.int .i64 c.2.1,.int .i64 c.2.2.1,.int .i64 c.2.2.2.1,.int .i64 c.2.2.2.2.1,.int .i64 c.2.2.2.2.2])] ?_
 refine AW.have1 (fun b1:Bool=>history_isCall_k1 c b1=some r) (fun b1=>⟨fr [(1,.bp 1 0),(3,.bool b1)],hpGet [(1,.box 68 [.int .i64 c.1,.int .i64 c.2.1,.int .i64 c.2.2.1,.int .i64 c.2.2.2.1,.int .i64 c.2.2.2.2.1,.int .i64 c.2.2.2.2.2])],gt⟩) (fun b1 h=>?_) (fun hk_history_isCall_k1=>?_)
 ·as_aux_lemma =>
   unfold history_isCall_k1 at h
   refine AW.have1 (fun b2:Bool=>history_isCall_k2 c b1 b2=some r) (fun b2=>⟨fr [(1,.bp 1 0),(3,.bool b1),(4,.bool b2)],hpGet [(1,.box 68 [.int .i64 c.1,.int .i64 c.2.1,.int .i64 c.2.2.1,.int .i64 c.2.2.2.1,.int .i64 c.2.2.2.2.1,.int .i64 c.2.2.2.2.2])],gt⟩) (fun b2 h=>?_) (fun hk_history_isCall_k2=>?_)
   ·as_aux_lemma =>
     unfold history_isCall_k2 at h
     refine zo ?_
     refine zS 2 [(1,.bp 1 0),(3,.bool b1),(4,.bool b2),(24,.int .i64 c.1)] [(1,.box 68 [.int .i64 c.1,.int .i64 c.2.1,.int .i64 c.2.2.1,.int .i64 c.2.2.2.1,.int .i64 c.2.2.2.2.1,.int .i64 c.2.2.2.2.2])] ?_
     obtain ⟨v0,hv1,h⟩:=Option.bind_eq_some_iff.1 h
     refine zC [] [] (hc_history_within c.1 0 3 hv1) [(1,.bp 1 0),(3,.bool b1),(4,.bool b2),(25,.bool v0)] [(1,.box 68 [.int .i64 c.1,.int .i64 c.2.1,.int .i64 c.2.2.1,.int .i64 c.2.2.2.1,.int .i64 c.2.2.2.2.1,.int .i64 c.2.2.2.2.2])] ?_
     refine zS 1 [(1,.bp 1 0),(3,.bool b1),(4,.bool b2),(26,.bool v0)] [(1,.box 68 [.int .i64 c.1,.int .i64 c.2.1,.int .i64 c.2.2.1,.int .i64 c.2.2.2.1,.int .i64 c.2.2.2.2.1,.int .i64 c.2.2.2.2.2])] ?_
     rcases zI h with ⟨hb2,h⟩|⟨hb2,h⟩
     ·refine zS 2 [(1,.bp 1 0),(3,.bool b1),(4,.bool b2),(26,.bool true),(28,.int .i64 c.2.1)] [(1,.box 68 [.int .i64 c.1,.int .i64 c.2.1,.int .i64 c.2.2.1,.int .i64 c.2.2.2.1,.int .i64 c.2.2.2.2.1,.int .i64 c.2.2.2.2.2])] ?_
      obtain ⟨v0_2,hv3,h⟩:=Option.bind_eq_some_iff.1 h
      refine zG [] [] (hc_history_within c.2.1 0 1 hv3) [(1,.bp 1 0),(3,.bool b1),(4,.bool b2),(26,.bool true),(29,.bool v0_2)] [(1,.box 68 [.int .i64 c.1,.int .i64 c.2.1,.int .i64 c.2.2.1,.int .i64 c.2.2.2.1,.int .i64 c.2.2.2.2.1,.int .i64 c.2.2.2.2.2])] ?_
      refine zS 2 [(1,.bp 1 0),(3,.bool b1),(4,.bool b2),(31,.bool v0_2)] [(1,.box 68 [.int .i64 c.1,.int .i64 c.2.1,.int .i64 c.2.2.1,.int .i64 c.2.2.2.1,.int .i64 c.2.2.2.2.1,.int .i64 c.2.2.2.2.2])] ?_
      rcases zI h with ⟨hb4,h⟩|⟨hb4,h⟩
      ·refine zS 2 [(1,.bp 1 0),(3,.bool b1),(4,.bool b2),(31,.bool true),(33,.int .i64 c.2.2.1)] [(1,.box 68 [.int .i64 c.1,.int .i64 c.2.1,.int .i64 c.2.2.1,.int .i64 c.2.2.2.1,.int .i64 c.2.2.2.2.1,.int .i64 c.2.2.2.2.2])] ?_
       obtain ⟨v0_3,hv5,h⟩:=Option.bind_eq_some_iff.1 h
       refine zG [] [] (hc_history_within c.2.2.1 0 3 hv5) [(1,.bp 1 0),(3,.bool b1),(4,.bool b2),(31,.bool true),(34,.bool v0_3)] [(1,.box 68 [.int .i64 c.1,.int .i64 c.2.1,.int .i64 c.2.2.1,.int .i64 c.2.2.2.1,.int .i64 c.2.2.2.2.1,.int .i64 c.2.2.2.2.2])] ?_
       refine zS 2 [(1,.bp 1 0),(3,.bool b1),(4,.bool b2),(36,.bool v0_3)] [(1,.box 68 [.int .i64 c.1,.int .i64 c.2.1,.int .i64 c.2.2.1,.int .i64 c.2.2.2.1,.int .i64 c.2.2.2.2.1,.int .i64 c.2.2.2.2.2])] ?_
       rcases zI h with ⟨hb6,h⟩|⟨hb6,h⟩
       ·refine zS 2 [(1,.bp 1 0),(3,.bool b1),(4,.bool b2),(36,.bool true),(38,.int .i64 c.2.2.2.1)] [(1,.box 68 [.int .i64 c.1,.int .i64 c.2.1,.int .i64 c.2.2.1,.int .i64 c.2.2.2.1,.int .i64 c.2.2.2.2.1,.int .i64 c.2.2.2.2.2])] ?_
        obtain ⟨v0_4,hv7,h⟩:=Option.bind_eq_some_iff.1 h
        refine zG [] [] (hc_history_within c.2.2.2.1 0 9 hv7) [(1,.bp 1 0),(3,.bool b1),(4,.bool b2),(36,.bool true),(39,.bool v0_4)] [(1,.box 68 [.int .i64 c.1,.int .i64 c.2.1,.int .i64 c.2.2.1,.int .i64 c.2.2.2.1,.int .i64 c.2.2.2.2.1,.int .i64 c.2.2.2.2.2])] ?_
        refine zS 2 [(1,.bp 1 0),(3,.bool b1),(4,.bool b2),(41,.bool v0_4)] [(1,.box 68 [.int .i64 c.1,.int .i64 c.2.1,.int .i64 c.2.2.1,.int .i64 c.2.2.2.1,.int .i64 c.2.2.2.2.1,.int .i64 c.2.2.2.2.2])] ?_
        rcases zI h with ⟨hb8,h⟩|⟨hb8,h⟩
        ·refine zS 2 [(3,.bool b1),(4,.bool b2),(41,.bool true),(43,.int .i64 c.2.2.2.2.1)] [] ?_
         obtain ⟨v0_5,hv9,h⟩:=Option.bind_eq_some_iff.1 h
         refine zG [] [] (hc_history_within c.2.2.2.2.1 1 100 hv9) [(3,.bool b1),(4,.bool b2),(41,.bool true),(44,.bool v0_5)] [] ?_
         refine zS 2 [(3,.bool b1),(4,.bool b2),(46,.bool v0_5)] [] ?_
         rcases zI h with ⟨hb10,h⟩|⟨hb10,h⟩
         ·refine zS 2 [(4,.bool b2),(46,.bool true),(48,.bool b1)] [] ?_
          rcases zI h with ⟨hb11,h⟩|⟨hb11,h⟩
          ·refine zB [(2,.bool true)] [] ?_
           refine AW.ret ?_
           obtain rfl:=Option.some.inj h
           exact zR [] [] []
          ·refine zB [(2,.bool b2)] [] ?_
           refine AW.ret ?_
           obtain rfl:=Option.some.inj h
           exact zR [] [] []
         ·refine zS 4 [(46,.bool false),(50,.cv (undef))] [] ?_
          refine zB [(2,.bool false)] [] ?_
          refine AW.ret ?_
          obtain rfl:=Option.some.inj h
          exact zR [] [] []
        ·refine zS 5 [(3,.bool b1),(4,.bool b2),(46,.bool false)] [] ?_
         refine zS 4 [(46,.bool false),(50,.cv (undef))] [] ?_
         refine zB [(2,.bool false)] [] ?_
         refine AW.ret ?_
         obtain rfl:=Option.some.inj h
         exact zR [] [] []
       ·refine zS 5 [(1,.bp 1 0),(3,.bool b1),(4,.bool b2),(41,.bool false)] [(1,.box 68 [.int .i64 c.1,.int .i64 c.2.1,.int .i64 c.2.2.1,.int .i64 c.2.2.2.1,.int .i64 c.2.2.2.2.1,.int .i64 c.2.2.2.2.2])] ?_
        refine zS 5 [(3,.bool b1),(4,.bool b2),(46,.bool false)] [] ?_
        refine zS 4 [(46,.bool false),(50,.cv (undef))] [] ?_
        refine zB [(2,.bool false)] [] ?_
        refine AW.ret ?_
        obtain rfl:=Option.some.inj h
        exact zR [] [] []
      ·refine zS 5 [(1,.bp 1 0),(3,.bool b1),(4,.bool b2),(36,.bool false)] [(1,.box 68 [.int .i64 c.1,.int .i64 c.2.1,.int .i64 c.2.2.1,.int .i64 c.2.2.2.1,.int .i64 c.2.2.2.2.1,.int .i64 c.2.2.2.2.2])] ?_
       refine zS 5 [(1,.bp 1 0),(3,.bool b1),(4,.bool b2),(41,.bool false)] [(1,.box 68 [.int .i64 c.1,.int .i64 c.2.1,.int .i64 c.2.2.1,.int .i64 c.2.2.2.1,.int .i64 c.2.2.2.2.1,.int .i64 c.2.2.2.2.2])] ?_
       refine zS 5 [(3,.bool b1),(4,.bool b2),(46,.bool false)] [] ?_
       refine zS 4 [(46,.bool false),(50,.cv (undef))] [] ?_
       refine zB [(2,.bool false)] [] ?_
       refine AW.ret ?_
       obtain rfl:=Option.some.inj h
       exact zR [] [] []
     ·refine zS 5 [(1,.bp 1 0),(3,.bool b1),(4,.bool b2),(31,.bool false)] [(1,.box 68 [.int .i64 c.1,.int .i64 c.2.1,.int .i64 c.2.2.1,.int .i64 c.2.2.2.1,.int .i64 c.2.2.2.2.1,.int .i64 c.2.2.2.2.2])] ?_
      refine zS 5 [(1,.bp 1 0),(3,.bool b1),(4,.bool b2),(36,.bool false)] [(1,.box 68 [.int .i64 c.1,.int .i64 c.2.1,.int .i64 c.2.2.1,.int .i64 c.2.2.2.1,.int .i64 c.2.2.2.2.1,.int .i64 c.2.2.2.2.2])] ?_
      refine zS 5 [(1,.bp 1 0),(3,.bool b1),(4,.bool b2),(41,.bool false)] [(1,.box 68 [.int .i64 c.1,.int .i64 c.2.1,.int .i64 c.2.2.1,.int .i64 c.2.2.2.1,.int .i64 c.2.2.2.2.1,.int .i64 c.2.2.2.2.2])] ?_
      refine zS 5 [(3,.bool b1),(4,.bool b2),(46,.bool false)] [] ?_
      refine zS 4 [(46,.bool false),(50,.cv (undef))] [] ?_
      refine zB [(2,.bool false)] [] ?_
      refine AW.ret ?_
      obtain rfl:=Option.some.inj h
      exact zR [] [] []
   ·refine zo ?_
    refine zS 5 [(1,.bp 1 0),(3,.bool b1),(17,.bool (decide (c.2.2.2.2.1<c.2.2.2.2.2)))] [(1,.box 68 [.int .i64 c.1,.int .i64 c.2.1,.int .i64 c.2.2.1,.int .i64 c.2.2.2.1,.int .i64 c.2.2.2.2.1,.int .i64 c.2.2.2.2.2])] ?_
    refine zS 1 [(1,.bp 1 0),(3,.bool b1),(18,.bool (decide (c.2.2.2.2.1<c.2.2.2.2.2)))] [(1,.box 68 [.int .i64 c.1,.int .i64 c.2.1,.int .i64 c.2.2.1,.int .i64 c.2.2.2.1,.int .i64 c.2.2.2.2.1,.int .i64 c.2.2.2.2.2])] ?_
    rcases zI h with ⟨hb12,h⟩|⟨hb12,h⟩
    ·refine zB [(1,.bp 1 0),(3,.bool b1),(4,.bool (decide (c.2.2.2.2.2≤100)))] [(1,.box 68 [.int .i64 c.1,.int .i64 c.2.1,.int .i64 c.2.2.1,.int .i64 c.2.2.2.1,.int .i64 c.2.2.2.2.1,.int .i64 c.2.2.2.2.2])] ?_
     exact AW.weaken (zL [] [] []) (hk_history_isCall_k2 _ h)
    ·refine zB [(1,.bp 1 0),(3,.bool b1),(4,.bool false)] [(1,.box 68 [.int .i64 c.1,.int .i64 c.2.1,.int .i64 c.2.2.1,.int .i64 c.2.2.2.1,.int .i64 c.2.2.2.2.1,.int .i64 c.2.2.2.2.2])] ?_
     exact AW.weaken (zL [] [] []) (hk_history_isCall_k2 _ h)
 ·refine zo ?_
  refine zS 4 [(1,.bp 1 0),(8,.bool (decide (c.2.2.2.2.2=0)))] [(1,.box 68 [.int .i64 c.1,.int .i64 c.2.1,.int .i64 c.2.2.1,.int .i64 c.2.2.2.1,.int .i64 c.2.2.2.2.1,.int .i64 c.2.2.2.2.2])] ?_
  rcases zI h with ⟨hb13,h⟩|⟨hb13,h⟩
  ·refine zB [(1,.bp 1 0),(3,.bool (decide (c.2.2.2.1=0)))] [(1,.box 68 [.int .i64 c.1,.int .i64 c.2.1,.int .i64 c.2.2.1,.int .i64 c.2.2.2.1,.int .i64 c.2.2.2.2.1,.int .i64 c.2.2.2.2.2])] ?_
   exact AW.weaken (zL [] [] []) (hk_history_isCall_k1 _ h)
  ·refine zB [(1,.bp 1 0),(3,.bool false)] [(1,.box 68 [.int .i64 c.1,.int .i64 c.2.1,.int .i64 c.2.2.1,.int .i64 c.2.2.2.1,.int .i64 c.2.2.2.2.1,.int .i64 c.2.2.2.2.2])] ?_
   exact AW.weaken (zL [] [] []) (hk_history_isCall_k1 _ h)
theorem hc_history_before (a:Int×Int×Int×Int×Int×Int) (b:Int×Int×Int×Int×Int×Int) {r:Bool} (h:history_before a b=some r):HC Try.prog 141 [] [.agg [.int .i64 a.1,.int .i64 a.2.1,.int .i64 a.2.2.1,.int .i64 a.2.2.2.1,.int .i64 a.2.2.2.2.1,.int .i64 a.2.2.2.2.2],.agg [.int .i64 b.1,.int .i64 b.2.1,.int .i64 b.2.2.1,.int .i64 b.2.2.2.1,.int .i64 b.2.2.2.2.1,.int .i64 b.2.2.2.2.2]] [] (.bool r):=by
 unfold history_before at h
 refine zH Try.func141 [.tmp 4] 15 ?_
 refine zo ?_
 refine zB [(2,.bp 2 0),(3,.bp 3 0)] [(2,.box 68 [.int .i64 a.1,.int .i64 a.2.1,.int .i64 a.2.2.1,.int .i64 a.2.2.2.1,.int .i64 a.2.2.2.2.1,.int .i64 a.2.2.2.2.2]),(3,.box 68 [.int .i64 b.1,.int .i64 b.2.1,.int .i64 b.2.2.1,.int .i64 b.2.2.2.1,.int .i64 b.2.2.2.2.1,.int .i64 b.2.2.2.2.2])] ?_
 refine zo ?_
 refine zS 4 [(2,.bp 2 0),(3,.bp 3 0),(8,.bool (!(decide (a.2.2.2.2.2=0))))] [(2,.box 68 [.int .i64 a.1,.int .i64 a.2.1,.int .i64 a.2.2.1,.int .i64 a.2.2.2.1,.int .i64 a.2.2.2.2.1,.int .i64 a.2.2.2.2.2]),(3,.box 68 [.int .i64 b.1,.int .i64 b.2.1,.int .i64 b.2.2.1,.int .i64 b.2.2.2.1,.int .i64 b.2.2.2.2.1,.int .i64 b.2.2.2.2.2])] ?_
 rcases zI h with ⟨hb1,h⟩|⟨hb1,h⟩
 ·refine zS 5 [(8,.bool true),(13,.bool (decide (a.2.2.2.2.2<b.2.2.2.2.1)))] [] ?_
  refine zB [(4,.bool (decide (a.2.2.2.2.2<b.2.2.2.2.1)))] [] ?_
  refine AW.ret ?_
  obtain rfl:=Option.some.inj h
  exact zR [] [] []
 ·refine zS 4 [(8,.bool false),(10,.cv (undef)),(12,.cv (undef))] [] ?_
  refine zB [(4,.bool false)] [] ?_
  refine AW.ret ?_
  obtain rfl:=Option.some.inj h
  exact zR [] [] []
end Go.Proofs.Ytenchhmcjmjlbaa
